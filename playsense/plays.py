"""Plays: whether they are legal, their sights and open asks, and how they go on."""

from playsense.kinds import kind_at
from playsense.values import is_answer, is_tuple_of, is_whole

BEGINNING = (("ask", ()), None)


def _is_move(value):
    """Whether a value is a move, whatever the kind of the play."""
    if not is_tuple_of(value, 2):
        return False
    word, told = value
    if word == "ask":
        return isinstance(told, tuple) and all([is_whole(number) for number in told])
    return word == "say" and is_answer(told)


def _is_later_step(value, number):
    """Whether a value has the shape of the step of a number above 0."""
    return is_tuple_of(value, 2) and _is_move(value[0]) and is_whole(value[1]) and value[1] < number


def _is_placed(kind, move, answered):
    """Whether a move is one behind the move that it answers to, by their places."""
    if answered[0] != "ask":
        return False
    if move[0] == "say":
        return True
    place = move[1]
    return place != () and place[:-1] == answered[1] and kind_at(kind, place) is not None


def _reason_against(kind, play, waiting, step):
    """Why a step does not go on a legal play, in which some asks are open; None if it does."""
    number = len(play)
    if number == 0:
        return None if step == BEGINNING else "beginning"
    if not _is_later_step(step, number):
        return "shape"
    move, back = step
    if (number - back) % 2 == 0:
        return "own"
    if not _is_placed(kind, move, play[back][0]):
        return "place"
    if move[0] == "say" and back not in waiting:
        return "closed"
    if move[0] == "say" and back != waiting[-1]:
        return "bracket"
    if back not in _sight_behind(play):
        return "sight"
    return None


def _note_open(waiting, number, step):
    """Notes in a list of the asks that are open what a step opens or closes."""
    move, back = step
    if move[0] == "ask":
        waiting.append(number)
    else:
        waiting.remove(back)


def fault_of(kind, play):
    """(number, reason) of the first fault of a tuple of whatever, None if it is a legal play."""
    waiting = []
    for number, step in enumerate(play):
        reason = _reason_against(kind, play[:number], waiting, step)
        if reason is not None:
            return number, reason
        _note_open(waiting, number, step)
    return None


def _sight_behind(play):
    """The sight of the player whose turn it is, both by the same rule."""
    found = []
    number = len(play) - 1
    while number > 0:
        back = play[number][1]
        found.extend([number, back])
        number = back - 1
    if number == 0:
        found.append(0)
    return tuple(found[::-1])


def program_sight(play):
    """The program's sight of a legal play that ends with an asker's step."""
    return _sight_behind(play)


def asker_sight(play):
    """The asker's sight of a legal play that ends with a program's step."""
    return _sight_behind(play)


def open_asks(play):
    """The numbers of the asks of a legal play that are open, rising."""
    waiting = []
    for number, step in enumerate(play):
        _note_open(waiting, number, step)
    return tuple(waiting)


def steps_to(kind, play, back):
    """All steps that answer to an ask of a play, by their places, whatever else the rules say."""
    word, place = play[back][0]
    if word != "ask":
        return []
    found = [(("ask", place + (k,)), back) for k in range(len(kind_at(kind, place)))]
    return found + [(("say", 0), back), (("say", 1), back)]


def steps_after(kind, play):
    """A rising tuple of all steps with which a legal play goes on legally."""
    if len(play) == 0:
        return (BEGINNING,)
    waiting = open_asks(play)
    steps = [step for back in _sight_behind(play) for step in steps_to(kind, play, back)]
    return tuple(sorted([step for step in steps if _reason_against(kind, play, waiting, step) is None]))


def alone(play, numbers):
    """The steps with some numbers as a play of their own, their backs numbered anew."""
    # The back of the step 0 is None, and stays so.
    anew = {None: None}
    for at, number in enumerate(numbers):
        anew[number] = at
    return tuple([(play[number][0], anew[play[number][1]]) for number in numbers])
