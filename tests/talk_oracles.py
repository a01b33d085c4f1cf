"""Talks told again in the plainest way, to compare with, and strategies to try them on.

Everything here follows the words of the document one by one, with no regard to time.
"""

from oracles import BEGINNING, O, ONE, TWO, ask, reply_by_rule, steps_by_trying
from playsense.normal import normal
from playsense.programs import term_of
from playsense.strategies import meaning
from playsense.terms import read


def strategy_of(kind, text):
    return meaning(kind, normal(read(text)))


FIRST = (BEGINNING,)
ASKED = FIRST + (ask((0,), 0),)
INNER = ASKED + (ask((0, 0), 1),)
SAY_0 = strategy_of(O, "0")
SAY_1 = strategy_of(O, "1")
NOT = strategy_of(ONE, "fun x: o. if x then 0 else 1")
TWICE = strategy_of(TWO, "fun f: o -> o. f (f 1)")
BEHIND = strategy_of((ONE, ONE, O), "fun f: o -> o. fun g: o -> o. fun x: o. f (g x)")


def asking_often(kind, many, arguments, then):
    """The strategy that asks its first argument so often, as long as that answers 1, and then has another body."""
    body = then
    for _ in range(many):
        body = ("ask", 0, 0, arguments, ("stop",), body)
    return meaning(kind, ("program", len(kind), body))


def without(kind, k):
    """A kind without its argument k."""
    return tuple(argument for j, argument in enumerate(kind) if j != k)


# Threads

def beginning_of_thread(play, n):
    """The number of the step that begins the thread that the step n is in, None if there is none."""
    while n is not None:
        move, back = play[n]
        if n % 2 == 1 and move[0] == "ask" and len(move[1]) == 1:
            return n
        n = back
    return None


def thread_by_words(play, n):
    return tuple(number for number in range(len(play)) if beginning_of_thread(play, number) == n)


def told_alone_by_words(play, n):
    numbers = thread_by_words(play, n)
    told = [BEGINNING]
    for number in numbers[1:]:
        (word, what), back = play[number]
        told.append(((word, what[1:] if word == "ask" else what), numbers.index(back)))
    return tuple(told)


def asker_step_by_words(strategy, talk):
    """The reply of the strategy for an argument to the thread that the talk's last step is in."""
    n = beginning_of_thread(talk, len(talk) - 1)
    k, = talk[n][0][1]
    found = reply_by_rule(strategy, told_alone_by_words(talk, n))
    if found is None:
        return None
    (word, what), back = found
    return ((word, (k,) + what if word == "ask" else what), thread_by_words(talk, n)[back])


# Runs and feeding

def run_by_words(strategy, arguments):
    talk = (BEGINNING,)
    while True:
        step = reply_by_rule(strategy, talk)
        if step is None:
            return None, talk
        talk += (step,)
        if step[0][0] == "say" and step[1] == 0:
            return step[0][1], talk
        k = talk[beginning_of_thread(talk, len(talk) - 1)][0][1][0]
        step = asker_step_by_words(arguments[k], talk)
        if step is None:
            return None, talk
        talk += (step,)


def uncovered_by_words(strategy, k, argument, play):
    """The talk, and the reply to the play, None if there is none."""
    numbers = [0]
    talk = (BEGINNING,)
    while True:
        step = reply_by_rule(strategy, talk)
        if step is None:
            return talk, None
        talk += (step,)
        begins = beginning_of_thread(talk, len(talk) - 1)
        if begins is not None and talk[begins][0][1] == (k,):
            step = asker_step_by_words(argument, talk)
            if step is None:
                return talk, None
            talk += (step,)
        elif len(numbers) == len(play):
            (word, what), back = step
            shown = (what[0] - (what[0] > k),) + what[1:] if word == "ask" else what
            return talk, ((word, shown), numbers.index(back))
        else:
            (word, what), back = play[len(numbers) + 1]
            numbers.append(len(talk) - 1)
            hidden = (what[0] + (what[0] >= k),) + what[1:] if word == "ask" else what
            back_in_talk = numbers[back]
            numbers.append(len(talk))
            talk += (((word, hidden), back_in_talk),)


def fed_by_words(strategy, k, argument):
    kind = without(strategy[1], k)
    rows = {}
    sights = [(BEGINNING,)]
    while sights:
        sight = sights.pop()
        step = uncovered_by_words(strategy, k, argument, sight)[1]
        if step is not None:
            rows[sight] = step
            play = sight + (step,)
            behind = [other for other in steps_by_trying(kind, play) if other[1] == len(sight)]
            sights.extend(play + (other,) for other in behind)
    return ("strategy", kind, tuple(sorted(rows.items())))


def term_fed(kind, program, k, argument):
    """The term that gives a program of a kind another one for its argument k."""
    term = term_of(kind, program)
    names = [f"x{j}" for j in range(len(kind))]
    for j, name in enumerate(names):
        term = ("apply", term, term_of(kind[k], argument) if j == k else ("name", name))
    for j in reversed(range(len(kind))):
        if j != k:
            term = ("fun", names[j], kind[j], term)
    return term
