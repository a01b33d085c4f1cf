"""Strategies: what programs mean, told by what they do at each of their sights."""

from playsense.kinds import is_kind, kind_at
from playsense.plays import BEGINNING, alone, fault_of, program_sight, steps_after
from playsense.programs import body_of
from playsense.trees import grown
from playsense.values import is_tuple_of


def _is_row(kind, value):
    """Whether a value is a lone sight of a kind with a step with which it goes on legally."""
    if not is_tuple_of(value, 2) or not isinstance(value[0], tuple):
        return False
    sight, step = value
    if fault_of(kind, sight + (step,)) is not None:
        return False
    return len(sight) % 2 == 1 and all([sight[number][1] == number - 1 for number in range(2, len(sight), 2)])


def is_strategy(value):
    """Whether a value is a strategy."""
    if not is_tuple_of(value, 3):
        return False
    word, kind, rows = value
    if word != "strategy" or not is_kind(kind) or not isinstance(rows, tuple):
        return False
    steps = {}
    last = ()
    for row in rows:
        if not _is_row(kind, row):
            return False
        sight, step = row
        # A sight that another one goes on from is less than it, so its row came before.
        if sight <= last or (len(sight) > 1 and steps.get(sight[:-2]) != sight[-2]):
            return False
        steps[sight] = step
        last = sight
    return True


def _sights_behind(play, many, calls):
    """The sights behind a play that ends with the ask of something that has many arguments.

    They come with the numbers of the calls in them, and are in the order of its arguments,
    behind which come those of its answers 0 and 1.
    """
    number = len(play) - 1
    place = play[number][0][1]
    found = [(play + ((("ask", place + (i,)), number),), calls + (number + 1,)) for i in range(many)]
    return found + [(play + ((("say", answer), number),), calls) for answer in (0, 1)]


def _step_of_body(body, sight, calls):
    """The step of a body behind its sight, None if there is none."""
    if body[0] == "say":
        return (("say", body[1]), calls[-1])
    if body[0] == "ask":
        call = calls[-1 - body[1]]
        place = sight[call][0][1]
        return (("ask", place + (body[2],)), call)
    return None


def meaning(kind, program):
    """The strategy of a program of a kind."""
    rows = []
    pending = [(program[2], (BEGINNING,), (0,))]
    while pending:
        body, sight, calls = pending.pop()
        step = _step_of_body(body, sight, calls)
        if step is not None:
            rows.append((sight, step))
        if body[0] == "ask":
            _, _, _, arguments, zero, one = body
            bodies = [argument[2] for argument in arguments] + [zero, one]
            sights = _sights_behind(sight + (step,), len(arguments), calls)
            pending.extend([(inner, *behind) for inner, behind in zip(bodies, sights)])
    return ("strategy", kind, tuple(sorted(rows)))


def _spread_sight(strategy, node):
    """The note of the body that stands behind a sight, and the sights right behind its step."""
    sight, calls = node
    step = _step_at(strategy, sight)
    if step is None:
        return ("stop",), []
    move, back = step
    if move[0] == "say":
        return move, []
    asked = kind_at(strategy[1], move[1])
    up = calls[::-1].index(back)
    return ("ask", up, move[1][-1], asked), _sights_behind(sight + (step,), len(asked), calls)


def program_of(strategy):
    """The program that a strategy is the meaning of."""
    beginning = ((BEGINNING,), (0,))
    body = grown(beginning, lambda node: _spread_sight(strategy, node), body_of)
    return ("program", len(strategy[1]), body)


def _step_at(strategy, sight):
    """The step in the row of a sight, None if there is no such row."""
    rows = strategy[2]
    low = 0
    high = len(rows)
    while low < high:
        middle = (low + high) // 2
        if rows[middle][0] < sight:
            low = middle + 1
        else:
            high = middle
    if low < len(rows) and rows[low][0] == sight:
        return rows[low][1]
    return None


def reply(strategy, play):
    """The step of a strategy behind a legal play that ends with an asker's step, or None."""
    sight = program_sight(play)
    step = _step_at(strategy, alone(play, sight))
    if step is None:
        return None
    move, back = step
    return (move, sight[back])


def fault_in(strategy, play):
    """The number of the first program's step that is not the reply, None if there is none."""
    for number in range(1, len(play), 2):
        if reply(strategy, play[:number]) != play[number]:
            return number
    return None


def _plays_going_on(strategy, play):
    """The plays of a strategy that have two steps more than this one."""
    found = []
    for step in steps_after(strategy[1], play):
        answer = reply(strategy, play + (step,))
        if answer is not None:
            found.append(play + (step, answer))
    return found


def plays_of(strategy, most):
    """A rising tuple of the plays of a strategy of even length, of at most so many steps."""
    found = [()]
    longest = [()]
    for _ in range(most // 2):
        longest = [longer for play in longest for longer in _plays_going_on(strategy, play)]
        found.extend(longest)
    return tuple(sorted(found))
