"""The same things told again in the plainest way, to compare with, and things to try them on.

Everything here follows the words of the document one by one, with no regard to time.
"""

import random

O = ()
ONE = (O,)
TWO = (ONE,)
THREE = (TWO,)
BINARY = (O, O)
KINDS = (
    O, ONE, BINARY, TWO, THREE, (ONE, O), (O, ONE), (BINARY,), (TWO, O), (ONE, ONE),
    ((ONE, O),), (TWO, ONE), ((O, ONE), O), (TWO, BINARY, O), (O, O, O, O),
    (O, TWO), ((BINARY,),), (ONE, (ONE, BINARY)),
)
BEGINNING = (("ask", ()), None)


def ask(place, back):
    """The step that asks a place."""
    return (("ask", place), back)


def say(answer, back):
    """The step that says an answer."""
    return (("say", answer), back)


# A play of fun f: o -> o. f (f 1), whose f asks its own argument twice: the first time the
# program asks f again, which asks its argument and says 0.
LONG = (
    BEGINNING,
    ask((0,), 0),
    ask((0, 0), 1),
    ask((0,), 0),
    ask((0, 0), 3),
    say(1, 4),
    say(0, 3),
    say(0, 2),
    ask((0, 0), 1),
    ask((0,), 0),
    say(1, 9),
    say(1, 8),
    say(1, 1),
    say(1, 0),
)


# Programs and terms to try

def random_body(chance, levels, size):
    """A body within programs of the kinds in levels, of about so many asks."""
    if size <= 0 or chance.random() < 0.2 or not any(levels):
        return chance.choice([("say", 0), ("say", 1), ("say", 1), ("stop",)])
    up = chance.choice([n for n, kind in enumerate(levels[::-1]) if kind])
    kind = levels[-1 - up]
    k = chance.randrange(len(kind))
    inner = kind[k]
    share = (size - 1) // (len(inner) + 2) if chance.random() < 0.7 else size // 2
    arguments = tuple(("program", len(a), random_body(chance, levels + (a,), share)) for a in inner)
    zero = random_body(chance, levels, share)
    one = random_body(chance, levels, share)
    return ("ask", up, k, arguments, zero, one)


def random_program(chance, kind, size):
    return ("program", len(kind), random_body(chance, (kind,), size))


def some_programs(seed, many, size=6, kinds=KINDS):
    """Pairs of a kind and a program of it."""
    chance = random.Random(seed)
    found = []
    for number in range(many):
        kind = kinds[number % len(kinds)]
        found.append((kind, random_program(chance, kind, size)))
    return found


def random_term(chance, kind, names, size):
    """A term of a kind, of about so many parts; names are a dict of names and their kinds."""
    if kind != O and chance.random() < 0.8:
        return random_fun(chance, kind, names, size)
    ends = [name for name in names if kind == names[name][len(names[name]) - len(kind):]]
    if size <= 1:
        ends = [name for name in ends if kind == names[name]]
    if size > 4 and chance.random() < 0.3:
        given = chance.choice([O, ONE, ONE, TWO, BINARY, (ONE, O)])
        function = random_fun(chance, (given,) + kind, names, size // 2)
        return ("apply", function, random_term(chance, given, names, size // 2))
    if size > 4 and kind == O and chance.random() < 0.4:
        parts = [random_term(chance, O, names, size // 3) for _ in range(3)]
        return ("if", parts[0], parts[1], parts[2])
    if ends and chance.random() < 0.9:
        return random_spine(chance, chance.choice(ends), kind, names, size)
    if kind != O:
        return random_fun(chance, kind, names, size)
    return chance.choice([("answer", 0), ("answer", 1), ("stop",)])


def random_fun(chance, kind, names, size):
    name = chance.choice("xyzfgh")
    body = random_term(chance, kind[1:], {**names, name: kind[0]}, size - 1)
    return ("fun", name, kind[0], body)


def random_spine(chance, name, kind, names, size):
    """A name with so many arguments that the kind is left."""
    given = names[name][:len(names[name]) - len(kind)]
    term = ("name", name)
    for inner in given:
        term = ("apply", term, random_term(chance, inner, names, size // (len(given) + 1)))
    return term


def some_terms(seed, many, size=30, kinds=KINDS):
    chance = random.Random(seed)
    return [random_term(chance, kinds[number % len(kinds)], {}, size) for number in range(many)]


# Normal forms: the equations of the document, with terms in the place of names

class Names:
    def __init__(self):
        self.many = 0

    def new(self):
        self.many += 1
        return f"new{self.many}"


def replaced(term, meant):
    """A term with terms in the place of its free names. They have only names that are new."""
    form = term[0]
    if form == "name":
        return meant.get(term[1], term)
    if form == "fun":
        _, name, kind, body = term
        return ("fun", name, kind, replaced(body, {other: meant[other] for other in meant if other != name}))
    if form in ("apply", "if"):
        return (form, *[replaced(part, meant) for part in term[1:]])
    return term


def with_new_names(term, names):
    """A term in which each fun has a name of its own."""
    form = term[0]
    if form == "fun":
        _, name, kind, body = term
        new = names.new()
        return ("fun", new, kind, with_new_names(replaced(body, {name: ("name", new)}), names))
    if form in ("apply", "if"):
        return (form, *[with_new_names(part, names) for part in term[1:]])
    return term


def head_by_equations(term, names):
    """("answer", v), ("stop",) or ("if", name with its arguments, P, Q), for a term of kind ()."""
    if term[0] == "if":
        _, test, yes, no = term
        test = head_by_equations(test, names)
        if test[0] == "stop":
            return test
        if test[0] == "answer":
            return head_by_equations(yes if test[1] == 1 else no, names)
        _, asked, m, n = test
        return ("if", asked, ("if", m, yes, no), ("if", n, yes, no))
    given = []
    head = term
    while head[0] == "apply":
        given.insert(0, head[2])
        head = head[1]
    if head[0] == "name":
        return ("if", term, ("answer", 1), ("answer", 0))
    if head[0] == "fun":
        # Each fun gets a name that stands nowhere else, so that nothing is caught.
        _, name, _, body = with_new_names(head, names)
        whole = replaced(body, {name: given[0]})
        for argument in given[1:]:
            whole = ("apply", whole, argument)
        return head_by_equations(whole, names)
    return head


def normal_by_equations(kind, term, names=None, meant=(), level=0):
    """The normal form of a term of a kind; meant tells the level, number and kind of names."""
    names = names or Names()
    for k, inner in enumerate(kind):
        new = names.new()
        meant = meant + ((new, level, k, inner),)
        term = ("apply", term, ("name", new))
    return ("program", len(kind), body_by_equations(term, names, meant, level))


def body_by_equations(term, names, meant, level):
    term = head_by_equations(term, names)
    if term[0] == "answer":
        return ("say", term[1])
    if term[0] == "stop":
        return term
    _, asked, yes, no = term
    given = []
    while asked[0] == "apply":
        given.insert(0, asked[2])
        asked = asked[1]
    (whose, k, kind), = [(its, number, kind) for name, its, number, kind in meant if name == asked[1]]
    arguments = tuple(
        normal_by_equations(inner, argument, names, meant, level + 1) for inner, argument in zip(kind, given)
    )
    bodies = [body_by_equations(part, names, meant, level) for part in (no, yes)]
    return ("ask", level - whose, k, arguments, *bodies)


# Plain answers

class NeverAnswers(Exception):
    pass


def plain_by_words(program, arguments):
    try:
        return answer_of((program, ()), [(argument, ()) for argument in arguments])
    except NeverAnswers:
        return None


def answer_of(closed, given):
    program, around = closed
    return answer_of_body(program[2], around + (given,))


def answer_of_body(body, around):
    if body[0] == "stop":
        raise NeverAnswers
    if body[0] == "say":
        return body[1]
    _, up, k, arguments, zero, one = body
    answer = answer_of(around[-1 - up][k], [(argument, around) for argument in arguments])
    return answer_of_body((zero, one)[answer], around)


# Plays

def kind_at_place(kind, place):
    for number in place:
        if number >= len(kind):
            return None
        kind = kind[number]
    return kind


def all_places(kind):
    return [()] + [(k,) + place for k, inner in enumerate(kind) for place in all_places(inner)]


def program_sight_by_rule(play):
    n = len(play) - 1
    if n == 0:
        return (0,)
    j = play[n][1]
    return program_sight_by_rule(play[:j]) + (j, n)


def asker_sight_by_rule(play):
    n = len(play) - 1
    j = play[n][1]
    if j == 0:
        return (0, n)
    return asker_sight_by_rule(play[:j]) + (j, n)


def is_open(play, n):
    return play[n][0][0] == "ask" and all(step[0][0] != "say" or step[1] != n for step in play)


def goes_on_legally(kind, play, step):
    """Whether a step that is a move and a number may stand behind a legal play, rule by rule."""
    if play == ():
        return step == BEGINNING
    (word, told), back = step
    n = len(play)
    if back is None or not 0 <= back < n or (n - back) % 2 == 0:
        return False
    if play[back][0][0] != "ask":
        return False
    if word == "ask":
        if told == () or told[:-1] != play[back][0][1] or kind_at_place(kind, told) is None:
            return False
    else:
        open_ones = [m for m in range(n) if is_open(play, m)]
        if open_ones == [] or open_ones[-1] != back:
            return False
    sight = program_sight_by_rule(play) if n % 2 == 1 else asker_sight_by_rule(play)
    return back in sight


def steps_by_trying(kind, play):
    """All steps with which a legal play goes on legally, of all that there are."""
    moves = [("ask", place) for place in all_places(kind)] + [("say", 0), ("say", 1)]
    steps = [(move, back) for move in moves for back in [None, *range(len(play))]]
    return [step for step in steps if goes_on_legally(kind, play, step)]


def legal_plays(kind, most):
    """All legal plays of at most so many steps."""
    found = [()]
    longest = [()]
    for _ in range(most):
        longest = [play + (step,) for play in longest for step in steps_by_trying(kind, play)]
        found.extend(longest)
    return found


def some_plays(seed, kind, many, length):
    """Legal plays of a length, or shorter where they end; each step is one of all legal ones."""
    chance = random.Random(seed)
    found = []
    for _ in range(many):
        play = ()
        while len(play) < length:
            steps = steps_by_trying(kind, play)
            if not steps:
                break
            asks = [step for step in steps if step[0][0] == "ask"]
            # Talks end soon if each one answers as often as not.
            play = play + (chance.choice(asks if asks and chance.random() < 0.7 else steps),)
        found.append(play)
    return found


# Strategies

def rows_by_rule(kind, program):
    rows = {}
    add_rows(rows, kind, program[2], (BEGINNING,), ((0, ()),))
    return rows


def add_rows(rows, kind, body, sight, calls):
    """The rows of a body; calls are the call and its place of each program around it."""
    if body[0] == "say":
        rows[sight] = (("say", body[1]), calls[-1][0])
    if body[0] == "ask":
        _, up, k, arguments, zero, one = body
        call, place = calls[-1 - up]
        rows[sight] = (("ask", place + (k,)), call)
        n = len(sight)
        behind = sight + (rows[sight],)
        add_rows(rows, kind, zero, behind + ((("say", 0), n),), calls)
        add_rows(rows, kind, one, behind + ((("say", 1), n),), calls)
        for i, argument in enumerate(arguments):
            asked = place + (k, i)
            add_rows(rows, kind, argument[2], behind + ((("ask", asked), n),), calls + ((n + 1, asked),))


def alone_by_rule(play, numbers):
    return tuple(
        (play[n][0], None if play[n][1] is None else numbers.index(play[n][1])) for n in numbers
    )


def reply_by_rule(strategy, play):
    sight = program_sight_by_rule(play)
    for row, (move, back) in strategy[2]:
        if row == alone_by_rule(play, sight):
            return (move, sight[back])
    return None
