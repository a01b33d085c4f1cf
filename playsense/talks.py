"""Talks: programs run against one another, and strategies fed with others."""

from playsense.errors import TooMany
from playsense.plays import BEGINNING, alone, asker_sight, fault_of, steps_to
from playsense.programs import handed
from playsense.strategies import fault_in, meaning, reply

_MOST_STEPS = 2000
_MOST_ROWS = 2000


def thread(play, n):
    """The numbers of the steps of the thread that begins with the step n, rising."""
    numbers = {n}
    for number in range(n + 1, len(play)):
        if play[number][1] in numbers:
            numbers.add(number)
    return tuple(sorted(numbers))


def _argument_of(play, step):
    """The argument whose thread a step of a play is in, None if it is in none."""
    (word, told), back = step
    place = told if word == "ask" else play[back][0][1]
    return None if place == () else place[0]


def _with_place(move, changed):
    """A move with what becomes of its place, if it is an ask."""
    word, told = move
    return (word, changed(told)) if word == "ask" else move


def _moved_on(place, k, by):
    """A place with its first number changed, if this is not less than k."""
    if place == () or place[0] < k:
        return place
    return (place[0] + by,) + place[1:]


def _with_argument(move, k):
    """A move of the kind without the argument k as one of the kind with it."""
    return _with_place(move, lambda place: _moved_on(place, k, 1))


def _without_argument(move, k):
    """A move of the kind with the argument k, in no thread of it, as one of the kind without it."""
    return _with_place(move, lambda place: _moved_on(place, k, -1))


def _from_within(play):
    """A play whose later steps are all in one thread, as a play of the kind of its argument."""
    later = [(_with_place(move, lambda place: place[1:]), back - 1) for move, back in play[2:]]
    return (BEGINNING, *later)


def told_alone(play, n):
    """The thread that begins with the step n of a play as a play of its own."""
    return _from_within(alone(play, (0,) + thread(play, n)))


def _reply_in_thread(strategy, talk):
    """The asker's next step of a talk, by the strategy for the argument that was asked; or None."""
    # The asker always goes on in the thread of the step just before. So what the asker sees,
    # but for the step 0, is what the strategy sees of this thread, and nothing else counts.
    sight = asker_sight(talk)
    step = reply(strategy, _from_within(alone(talk, sight)))
    if step is None:
        return None
    move, back = step
    k = _argument_of(talk, talk[-1])
    return (_with_place(move, lambda place: (k,) + place), sight[back + 1])


def _put(talk, step):
    """Puts a step behind a talk; raises TooMany()."""
    if len(talk) == _MOST_STEPS:
        raise TooMany()
    talk.append(step)


def _go_on(strategy, hidden, talk):
    """Puts steps behind a talk up to one that is in no thread of a hidden argument, and tells it.

    hidden is a dict of the strategies for these arguments. None is told if there is no reply.
    """
    step = reply(strategy, talk)
    while step is not None:
        _put(talk, step)
        k = _argument_of(talk, step)
        if k not in hidden:
            return step
        step = _reply_in_thread(hidden[k], talk)
        if step is not None:
            _put(talk, step)
            step = reply(strategy, talk)
    return None


def run(strategy, arguments):
    """(answer, talk) of a strategy that is given strategies; raises TooMany()."""
    talk = [BEGINNING]
    last = _go_on(strategy, {k: argument for k, argument in enumerate(arguments)}, talk)
    # All arguments are hidden, so that what is told is the answer to the step 0.
    answer = None if last is None else last[0][1]
    return answer, tuple(talk)


class Feeding:
    """A strategy that is fed with another one for its argument k, at one point of a play.

    talk is what was uncovered so far, numbers are those of the play's steps in it.
    """

    def __init__(self, strategy, k, argument):
        self.strategy = strategy
        self.k = k
        self.argument = argument
        self.talk = []
        self.numbers = []

    def branch(self):
        """One more Feeding at the same point."""
        other = Feeding(self.strategy, self.k, self.argument)
        other.talk = list(self.talk)
        other.numbers = list(self.numbers)
        return other

    def show(self, step):
        """Puts an asker's step of the play behind the talk."""
        move, back = step
        back_in_talk = None if back is None else self.numbers[back]
        self.numbers.append(len(self.talk))
        _put(self.talk, (_with_argument(move, self.k), back_in_talk))

    def find_reply(self):
        """Goes on to the reply to the play, and tells it, None if there is none."""
        step = _go_on(self.strategy, {self.k: self.argument}, self.talk)
        if step is None:
            return None
        move, back_in_talk = step
        back = self.numbers.index(back_in_talk)
        self.numbers.append(len(self.talk) - 1)
        return (_without_argument(move, self.k), back)


def uncovered(strategy, k, argument, play):
    """The uncovered talk of a play of a strategy that is fed with another one; raises TooMany()."""
    feeding = Feeding(strategy, k, argument)
    for step in play[::2]:
        feeding.show(step)
        if feeding.find_reply() is None:
            break
    return tuple(feeding.talk)


def _kind_without(kind, k):
    """A kind without its argument k."""
    return kind[:k] + kind[k + 1:]


def fed(strategy, k, argument):
    """The strategy that is fed with another one for its argument k; raises TooMany()."""
    kind = _kind_without(strategy[1], k)
    rows = []
    pending = [((BEGINNING,), Feeding(strategy, k, argument))]
    while pending:
        sight, before = pending.pop()
        feeding = before.branch()
        feeding.show(sight[-1])
        step = feeding.find_reply()
        if step is not None:
            if len(rows) == _MOST_ROWS:
                raise TooMany()
            rows.append((sight, step))
            play = sight + (step,)
            pending.extend([(play + (behind,), feeding) for behind in steps_to(kind, play, len(sight))])
    return ("strategy", kind, tuple(sorted(rows)))


def copycat(kind):
    """The meaning of the program that hands its other arguments on to the first one."""
    return meaning((kind,) + kind, handed(kind))


def seen(talk, k):
    """The play of the kind without the argument k that a legal play shows."""
    numbers = [number for number, step in enumerate(talk) if _argument_of(talk, step) != k]
    return tuple([(_without_argument(move, k), back) for move, back in alone(talk, numbers)])


def judge_talk(strategy, k, argument, talk):
    """Whether a tuple of whatever is a talk of a strategy and another one for its argument k."""
    if fault_of(strategy[1], talk) is not None or fault_in(strategy, talk) is not None:
        return False
    for number in range(2, len(talk), 2):
        step = talk[number]
        if _argument_of(talk, step) == k and _reply_in_thread(argument, talk[:number]) != step:
            return False
    return True
