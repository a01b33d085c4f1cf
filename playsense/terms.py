"""Texts of terms and of kinds: reading and writing them.

Terms may be nested deeper than calls can be, so nothing here calls itself:
what is still to be done stands in a list.
"""

from playsense.errors import TextFault

_LETTERS = "abcdefghijklmnopqrstuvwxyz"
_DIGITS = "0123456789"
_SINGLE_SIGNS = "01:.()"
_WORDS = ("fun", "if", "then", "else", "stop", "o")
_LONGEST_NAME = 8


def _name_at(text, at):
    """The name or word that begins at a sign of a text, "" if none does."""
    end = at
    if text[at] in _LETTERS:
        while end < len(text) and (text[end] in _LETTERS or text[end] in _DIGITS):
            end += 1
    return text[at:end]


def _token_at(text, at):
    """The token that begins at a sign of a text."""
    if text[at] in _SINGLE_SIGNS:
        return text[at]
    if text.startswith("->", at):
        return "->"
    name = _name_at(text, at)
    if name == "":
        raise TextFault(at, "unknown sign")
    if len(name) > _LONGEST_NAME:
        raise TextFault(at, "too long")
    return name


def _tokens(text):
    """The pairs of where a token begins and the token; "" is the end of the text."""
    found = []
    at = 0
    while at < len(text):
        if text[at] in " \n":
            at += 1
        else:
            token = _token_at(text, at)
            found.append((at, token))
            at += len(token)
    found.append((len(text), ""))
    return found


# A goal is what is still to be read: a sort of token (NAME, END, or the token
# itself), a rule of the grammar (TERM, ITEM, MORE items, KIND, PART, TAIL of a
# kind), or a maker, which is nothing to be read but puts together what was read.
# For a rule and the sort of the next token, these are the goals that follow.
_RULES = {
    ("KIND", "o"): ("PART", "TAIL"),
    ("KIND", "("): ("PART", "TAIL"),
    ("PART", "o"): ("o",),
    ("PART", "("): ("(", "KIND", ")"),
    ("TAIL", "->"): ("->", "KIND", "make arrow"),
    ("TERM", "fun"): ("fun", "NAME", ":", "KIND", ".", "TERM", "make fun"),
    ("TERM", "if"): ("if", "TERM", "then", "TERM", "else", "TERM", "make if"),
    ("TERM", "NAME"): ("ITEM", "MORE"),
    ("TERM", "0"): ("ITEM", "MORE"),
    ("TERM", "1"): ("ITEM", "MORE"),
    ("TERM", "stop"): ("ITEM", "MORE"),
    ("TERM", "("): ("ITEM", "MORE"),
    ("MORE", "NAME"): ("ITEM", "make application", "MORE"),
    ("MORE", "0"): ("ITEM", "make application", "MORE"),
    ("MORE", "1"): ("ITEM", "make application", "MORE"),
    ("MORE", "stop"): ("ITEM", "make application", "MORE"),
    ("MORE", "("): ("ITEM", "make application", "MORE"),
    ("ITEM", "NAME"): ("NAME", "make name"),
    ("ITEM", "0"): ("0",),
    ("ITEM", "1"): ("1",),
    ("ITEM", "stop"): ("stop",),
    ("ITEM", "("): ("(", "TERM", ")"),
}
_RULE_NAMES = ("KIND", "PART", "TAIL", "TERM", "MORE", "ITEM")
_MAY_BE_LEFT_OUT = ("TAIL", "MORE")

_MEANINGS = {"0": ("answer", 0), "1": ("answer", 1), "stop": ("stop",), "o": ()}


def _make_arrow(made):
    answer = made.pop()
    argument = made.pop()
    made.append((argument,) + answer)


def _make_name(made):
    name = made.pop()
    made.append(("name", name))


def _make_fun(made):
    body = made.pop()
    kind = made.pop()
    name = made.pop()
    made.append(("fun", name, kind, body))


def _make_application(made):
    argument = made.pop()
    function = made.pop()
    made.append(("apply", function, argument))


def _make_if(made):
    no = made.pop()
    yes = made.pop()
    test = made.pop()
    made.append(("if", test, yes, no))


_MAKERS = {
    "make arrow": _make_arrow,
    "make name": _make_name,
    "make fun": _make_fun,
    "make application": _make_application,
    "make if": _make_if,
}


def _sort_of(token):
    if token == "":
        return "END"
    if token[0] in _LETTERS and token not in _WORDS:
        return "NAME"
    return token


def _reason_at(token):
    if token == "":
        return "unexpected end"
    return "unexpected word"


def _goals_of(rule, at, token):
    """The goals that a rule becomes before a token."""
    key = (rule, _sort_of(token))
    if key in _RULES:
        return _RULES[key]
    if rule in _MAY_BE_LEFT_OUT:
        return ()
    raise TextFault(at, _reason_at(token))


def _take(goal, at, token, made):
    """Goes past a token that must be of the sort of the goal, and keeps what it means."""
    if _sort_of(token) != goal:
        raise TextFault(at, _reason_at(token))
    if goal == "NAME":
        made.append(token)
    elif token in _MEANINGS:
        made.append(_MEANINGS[token])


def _read(rule, text):
    """What a whole text means by a rule of the grammar."""
    tokens = _tokens(text)
    number = 0
    made = []
    goals = ["END", rule]
    while goals:
        goal = goals.pop()
        at, token = tokens[number]
        if goal in _MAKERS:
            maker = _MAKERS[goal]
            maker(made)
        elif goal in _RULE_NAMES:
            goals.extend(_goals_of(goal, at, token)[::-1])
        else:
            _take(goal, at, token, made)
            number += 1
    return made[0]


def read(text):
    """The term that a text tells; raises TextFault(at, reason)."""
    return _read("TERM", text)


def read_kind(text):
    """The kind that a text tells; raises TextFault(at, reason)."""
    return _read("KIND", text)


def _kind_pieces(kind):
    """The text of a kind, piece by piece; kinds stand for their own texts."""
    pieces = []
    for argument in kind:
        if argument == ():
            pieces.append("o")
        else:
            pieces.extend(["(", argument, ")"])
        pieces.append(" -> ")
    pieces.append("o")
    return pieces


def _grouped_if(forms, part):
    """The pieces of a part, in parentheses if it has one of the forms."""
    if part[0] in forms:
        return ["(", part, ")"]
    return [part]


def _term_pieces(term):
    """The text of a term, piece by piece; terms stand for their own texts."""
    form = term[0]
    if form == "name":
        return [term[1]]
    if form == "answer":
        return [str(term[1])]
    if form == "fun":
        _, name, kind, body = term
        return ["fun ", name, ": ", write_kind(kind), ". ", body]
    if form == "if":
        _, test, yes, no = term
        return ["if ", test, " then ", yes, " else ", no]
    if form == "apply":
        _, function, argument = term
        left = _grouped_if(("fun", "if"), function)
        right = _grouped_if(("fun", "if", "apply"), argument)
        return left + [" "] + right
    return ["stop"]


def write(term):
    """The text of a term."""
    texts = []
    pending = [term]
    while pending:
        part = pending.pop()
        if isinstance(part, str):
            texts.append(part)
        else:
            pending.extend(_term_pieces(part)[::-1])
    return "".join(texts)


def write_kind(kind):
    """The text of a kind."""
    texts = []
    pending = [kind]
    while pending:
        part = pending.pop()
        if isinstance(part, str):
            texts.append(part)
        else:
            pending.extend(_kind_pieces(part)[::-1])
    return "".join(texts)
