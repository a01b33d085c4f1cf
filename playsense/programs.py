"""Programs: whether a value is one of a kind, their asks and their terms, and handing on."""

from playsense.trees import grown
from playsense.values import is_answer, is_tuple_of, is_whole

_LETTERS = "abcdefghijklmnopqrstuvwxyz"


# The checks tell what is still to be checked, as triples of a check, a value and the
# kinds of the programs around it, the outermost first; None if the value is wrong.


def _check_program(value, kinds):
    """Checks what must be a program of the last one of the kinds."""
    if not is_tuple_of(value, 3):
        return None
    word, many, body = value
    if word != "program" or not is_whole(many) or many != len(kinds[-1]):
        return None
    return [(_check_body, body, kinds)]


def _check_body(value, kinds):
    """Checks what must be a body of a program of the last one of the kinds."""
    if is_tuple_of(value, 6) and value[0] == "ask":
        return _check_ask(value, kinds)
    if is_tuple_of(value, 2) and value[0] == "say" and is_answer(value[1]):
        return []
    if is_tuple_of(value, 1) and value[0] == "stop":
        return []
    return None


def _check_ask(value, kinds):
    _, up, k, arguments, zero, one = value
    asked = _asked_kind(up, k, kinds)
    if asked is None or not is_tuple_of(arguments, len(asked)):
        return None
    found = [(_check_program, argument, kinds + (kind,)) for argument, kind in zip(arguments, asked)]
    return found + [(_check_body, zero, kinds), (_check_body, one, kinds)]


def _asked_kind(up, k, kinds):
    """The kind of what an ask asks, None if there is no such argument."""
    if not is_whole(up) or up >= len(kinds):
        return None
    around = kinds[-1 - up]
    if not is_whole(k) or k >= len(around):
        return None
    return around[k]


def is_program(kind, value):
    """Whether a value is a program of a kind."""
    pending = [(_check_program, value, (kind,))]
    while pending:
        check, part, kinds = pending.pop()
        inner = check(part, kinds)
        if inner is None:
            return False
        pending.extend(inner)
    return True


def asks(program):
    """How many asks stand in a program."""
    many = 0
    pending = [program[2]]
    while pending:
        body = pending.pop()
        if body[0] == "ask":
            many += 1
            _, _, _, arguments, zero, one = body
            pending.extend([argument[2] for argument in arguments])
            pending.extend([zero, one])
    return many


def body_of(note, parts):
    """The body that grows of a note: a body, or ("ask", up, k, the kind of what is asked).

    The parts of an ask are the bodies of its arguments, its zero and its one.
    """
    if note[0] != "ask":
        return note
    _, up, k, asked = note
    arguments = tuple([("program", len(kind), body) for kind, body in zip(asked, parts)])
    return ("ask", up, k, arguments, parts[-2], parts[-1])


def _name_of(k, level):
    """The name of the argument k of the programs of a level."""
    return f"{_LETTERS[k]}{level}"


def _spread_part(node):
    """A part with the kinds of the programs around it, and those right within it."""
    part, kinds = node
    if part[0] == "program":
        return node, [(part[2], kinds)]
    if part[0] == "ask":
        _, up, k, arguments, zero, one = part
        asked = kinds[-1 - up][k]
        inner = [(argument, kinds + (kind,)) for argument, kind in zip(arguments, asked)]
        return node, inner + [(one, kinds), (zero, kinds)]
    return node, []


def _term_of_part(node, terms):
    """The term of a part, by the terms of the parts right within it."""
    part, kinds = node
    if part[0] == "program":
        return _term_of_program(kinds, terms[0])
    if part[0] == "ask":
        return _term_of_ask(part, kinds, terms)
    if part[0] == "say":
        return ("answer", part[1])
    return ("stop",)


def _term_of_program(kinds, body):
    term = body
    for k, kind in reversed(list(enumerate(kinds[-1]))):
        term = ("fun", _name_of(k, len(kinds) - 1), kind, term)
    return term


def _term_of_ask(ask, kinds, terms):
    test = ("name", _name_of(ask[2], len(kinds) - 1 - ask[1]))
    for argument in terms[:-2]:
        test = ("apply", test, argument)
    return ("if", test, terms[-2], terms[-1])


def term_of(kind, program):
    """The term of a program of a kind."""
    return grown((program, (kind,)), _spread_part, _term_of_part)


def _handing_on(up, k, kind, first):
    """The body that asks an argument of a kind, and gives it those from the first one on."""
    arguments = tuple([
        ("program", len(inner), _handing_on(1, first + i, inner, 0)) for i, inner in enumerate(kind)
    ])
    return ("ask", up, k, arguments, ("say", 0), ("say", 1))


def handed(kind):
    """The program of the kind (kind,) + kind that hands its other arguments to the first one."""
    return ("program", 1 + len(kind), _handing_on(0, 0, kind, 1))
