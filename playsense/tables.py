"""Tables of the answers of programs that are given answers."""

from playsense.normal import plain

_ITEMS = (None, 0, 1)


def inputs_of(n):
    """All inputs of n arguments, in order."""
    found = [()]
    for _ in range(n):
        found = [inputs + (item,) for inputs in found for item in _ITEMS]
    return tuple(found)


def _program_of(item):
    """The program that says an item of inputs, or stops if this is None."""
    body = ("stop",) if item is None else ("say", item)
    return ("program", 0, body)


def table_of(n, program):
    """The answers of a program of n arguments, one for each inputs in order."""
    return tuple([plain(program, tuple([_program_of(item) for item in inputs])) for inputs in inputs_of(n)])


def _tell_more(others, inputs):
    """Whether the first inputs tell more than the second ones."""
    return others != inputs and all([item is None or item == other for item, other in zip(inputs, others)])


def _fall_in(answers):
    """The first inputs and others from which and to which a table falls, None if it does not."""
    for inputs, answer in answers.items():
        for others, other_answer in answers.items():
            if answer is not None and other_answer != answer and _tell_more(others, inputs):
                return inputs, others
    return None


def _must_be_asked(inputs, answered):
    """The first argument that must be asked at inputs, None if there is none.

    answered are those that tell more and for which there is an answer.
    """
    for k, item in enumerate(inputs):
        if item is None and all([others[k] is not None for others in answered]):
            return k
    return None


def _body_at(answers, inputs):
    """The body that goes on at inputs, or ("stuck", the first inputs behind them that are)."""
    if answers[inputs] is not None:
        return ("say", answers[inputs])
    answered = [others for others, answer in answers.items() if answer is not None and _tell_more(others, inputs)]
    if answered == []:
        return ("stop",)
    k = _must_be_asked(inputs, answered)
    if k is None:
        return ("stuck", inputs)
    zero = _body_at(answers, inputs[:k] + (0,) + inputs[k + 1:])
    if zero[0] == "stuck":
        return zero
    one = _body_at(answers, inputs[:k] + (1,) + inputs[k + 1:])
    if one[0] == "stuck":
        return one
    return ("ask", 0, k, (), zero, one)


def decide(n, table):
    """("program", program) of a table, or ("falls", inputs, others), or ("stuck", inputs)."""
    answers = {inputs: answer for inputs, answer in zip(inputs_of(n), table)}
    fall = _fall_in(answers)
    if fall is not None:
        return ("falls", *fall)
    body = _body_at(answers, (None,) * n)
    if body[0] == "stuck":
        return body
    return ("program", ("program", n, body))
