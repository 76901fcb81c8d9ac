"""Things of every kind for the tests, and how a refusal is asked for."""

import copy

from wholefract.errors import FractError


def nested(kind, depth):
    thing = 1
    for _ in range(depth):
        thing = kind(thing)
    return thing


def of_every_kind():
    """Things of all kinds, none of them powers, a program, a number of the ten primes or a text that writes any."""
    return [
        None, True, False,
        0, -1, -6, 31, 37 * 2, -10 ** 59, 10 ** 60 - 1,
        "", " ", "a", "1 ", "0", "None", "\n", "\u0661", "\ud800", "x" * 2000, "9" * 2000, "9" * 10000,
        [], [1], [None], [0] * 10, [[2, 3]], [(2, 3)], ["2/3"], [0] * 9999,
        (), (1,), (None,), ((),), (0,) * 9, (0,) * 11, (True,) * 10, ("0",) * 10, (0,) * 9999, (2, 3), ([2, 3],),
        {}, {0: 0}, {2: 3}, {"top": 2, "bottom": 3}, {k: 0 for k in range(10)}, {(2, 3): 1}, {None: {True: []}},
        nested(lambda x: [x], 60), nested(lambda x: (x,), 60), nested(lambda x: {"a": x}, 60),
        [[], (), {}, "", 0, None, True], ([], (), {}, "", 0, None, True, 1, 2, 3),
    ]


def same(one, other):
    """Whether two things are alike in their kinds too: 1 == True is not enough."""
    if one.__class__ is not other.__class__:
        return False
    if isinstance(one, dict):
        return same(list(one.items()), list(other.items()))
    if isinstance(one, (list, tuple)):
        return len(one) == len(other) and all(map(same, one, other))
    return one == other


def told_twice(call, *handed):
    """What a call tells, asked twice; what was handed in must stay as it was."""
    before = copy.deepcopy(handed)
    first = call(*handed)
    second = call(*handed)
    if not same(handed, before):
        raise AssertionError("what was handed in was changed")
    if not same(first, second):
        raise AssertionError("the same question had two answers")
    return first


def refusal_of(call, *handed):
    """The class of the refusal, asked twice, or None; any other error goes through."""
    before = copy.deepcopy(handed)
    classes = []
    for _ in range(2):
        try:
            call(*handed)
            classes.append(None)
        except FractError as refusal:
            classes.append(refusal.__class__)
    if not same(handed, before):
        raise AssertionError("what was handed in was changed")
    if classes[0] is not classes[1]:
        raise AssertionError("the same question had two answers")
    return classes[0]
