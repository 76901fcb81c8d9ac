"""Things of every kind for the tests, how a refusal is asked for, and steps gone by the numbers themselves."""

import copy
import itertools
import math
import random

from wholefract.errors import FractError

TEN = (2, 3, 5, 7, 11, 13, 17, 19, 23, 29)
ADDING = ((3, 2),)
MULTIPLYING = ((455, 33), (11, 13), (1, 11), (3, 7), (11, 2), (1, 3))
PRIME_TELLING = ((17, 91), (78, 85), (19, 51), (23, 38), (29, 33), (77, 29), (95, 23), (77, 19), (1, 17), (11, 13),
                 (13, 11), (15, 2), (1, 7), (55, 1))
ONE = (0,) * 10
# Each prime alone goes away, so only the row of noughts is kept.
ALL_GO = tuple((1, prime) for prime in TEN)
# 2 for 3, 9 for 5, 7 for 8, and 11 for 13: 17 and beyond go into nothing.
EXCHANGING = ((3, 2), (5, 9), (8, 7), (13, 11))
SIXTEEN = PRIME_TELLING + ((1, 1), (3, 2))


def nested(kind, depth):
    thing = 1
    for _ in range(depth):
        thing = kind(thing)
    return thing


def of_every_kind():
    """Things of all kinds, none of them powers, a program, a number of the ten primes or a text that writes any."""
    return [
        None, True, False,
        0, -1, -6, 31, 37 * 2, -10 ** 59, 10 ** 60 - 1,
        "", " ", "a", "1 ", "0", "None", "\n", "\u0661", "\ud800", "x" * 2000, "9" * 2000, "9" * 10000,
        [], [1], [None], [0] * 10, [[2, 3]], [(2, 3)], ["2/3"], [0] * 9999,
        (), (1,), (None,), ((),), (0,) * 9, (0,) * 11, (True,) * 10, ("0",) * 10, (0,) * 9999, (2, 3), ([2, 3],),
        {}, {0: 0}, {2: 3}, {"top": 2, "bottom": 3}, {k: 0 for k in range(10)}, {(2, 3): 1}, {None: {True: []}},
        nested(lambda x: [x], 60), nested(lambda x: (x,), 60), nested(lambda x: {"a": x}, 60),
        [[], (), {}, "", 0, None, True], ([], (), {}, "", 0, None, True, 1, 2, 3),
    ]


def same(one, other):
    """Whether two things are alike in their kinds too: 1 == True is not enough."""
    if one.__class__ is not other.__class__:
        return False
    if isinstance(one, dict):
        return same(list(one.items()), list(other.items()))
    if isinstance(one, (list, tuple)):
        return len(one) == len(other) and all(map(same, one, other))
    return one == other


def told_twice(call, *handed):
    """What a call tells, asked twice; what was handed in must stay as it was."""
    before = copy.deepcopy(handed)
    first = call(*handed)
    second = call(*handed)
    if not same(handed, before):
        raise AssertionError("what was handed in was changed")
    if not same(first, second):
        raise AssertionError("the same question had two answers")
    return first


def refusal_of(call, *handed):
    """The class of the refusal, asked twice, or None; any other error goes through."""
    before = copy.deepcopy(handed)
    classes = []
    for _ in range(2):
        try:
            call(*handed)
            classes.append(None)
        except FractError as refusal:
            classes.append(refusal.__class__)
    if not same(handed, before):
        raise AssertionError("what was handed in was changed")
    if classes[0] is not classes[1]:
        raise AssertionError("the same question had two answers")
    return classes[0]


def refused_once(call, *handed):
    """The class of the refusal, or None, asked once: for deeds, which are done where they are not refused."""
    try:
        call(*handed)
    except FractError as refusal:
        return refusal.__class__
    return None


def refused_with(call, *handed):
    """The refusal itself, asked twice; both are of one class and, where they have steps, of as many."""
    told = []
    for _ in range(2):
        try:
            call(*handed)
        except FractError as refusal:
            told.append(refusal)
    if len(told) != 2:
        raise AssertionError("nothing was refused")
    if told[0].__class__ is not told[1].__class__ or vars(told[0]) != vars(told[1]):
        raise AssertionError("the same question was refused in two ways")
    return told[0]


def with_powers(**often):
    """Powers by their primes: with_powers(p2=3, p7=1) is 56."""
    return tuple(often.get(f"p{prime}", 0) for prime in TEN)


def product(powers):
    number = 1
    for prime, power in zip(TEN, powers):
        number *= prime ** power
    return number


def factored(number):
    powers = []
    for prime in TEN:
        powers.append(0)
        while number % prime == 0:
            number //= prime
            powers[-1] += 1
    return tuple(powers)


def first_by_number(program, number):
    for place, (top, bottom) in enumerate(program):
        if number * top % bottom == 0:
            return place
    return None


def next_by_number(program, powers):
    """What powers become by a step of their number, or None where it stops."""
    number = product(powers)
    place = first_by_number(program, number)
    return None if place is None else factored(number * program[place][0] // program[place][1])


def walk(program, powers, many):
    """All powers from these on, by at most so many steps, and the fractions used: number times fraction, whole."""
    number = product(powers)
    reached, used = [powers], []
    for _ in range(many):
        place = first_by_number(program, number)
        if place is None:
            break
        number = number * program[place][0] // program[place][1]
        used.append(place)
        reached.append(factored(number))
    return reached, used


def box(sides):
    """All powers below these sides, one for each of the first primes."""
    return [powers + (0,) * (10 - len(sides)) for powers in itertools.product(*[range(side) for side in sides])]


def small_programs(many, primes=3, seed=7):
    """Programs of few primes, so that their fractions get in each other's way; the same ones each time."""
    chance = random.Random(seed)
    for _ in range(many):
        program, length = [], chance.randint(1, 6)
        while len(program) < length:
            fraction = small_fraction(chance, primes, (0, 0, 0, 1, 1, 2, 3))
            if max(fraction) <= 10 ** 12:
                program.append(fraction)
        yield tuple(program)


def small_fraction(chance, primes, often):
    """Each of the first primes above or below, so often as one of these numbers says."""
    top = bottom = 1
    for prime in TEN[:primes]:
        many = chance.choice(often)
        if chance.random() < 0.5:
            top *= prime ** many
        else:
            bottom *= prime ** many
    return (top, bottom)


def small_powers(many, primes=3, greatest=9, seed=11):
    chance = random.Random(seed)
    for _ in range(many):
        yield tuple(chance.randint(0, greatest) for _ in range(primes)) + (0,) * (10 - primes)


def changes_of(program):
    return [[top - bottom for top, bottom in zip(factored(one), factored(other))] for one, other in program]


def by_hand(row, powers):
    total = 0
    for place in range(10):
        total += row[place] * powers[place]
    return total


def some_programs():
    chance = random.Random(89)
    yield from small_programs(60)
    yield from small_programs(120, 10, 97)
    yield from (ADDING, MULTIPLYING, PRIME_TELLING, EXCHANGING, ALL_GO, SIXTEEN, ((1, 1),), ((6, 1),))
    for many in (1, 2, 3, 5, 8, 9, 16):
        for _ in range(8):
            program = []
            while len(program) < many:
                top, bottom = (math.prod(chance.choices(TEN, k=chance.randint(0, 8))) for _ in range(2))
                if math.gcd(top, bottom) == 1 and max(top, bottom) <= 10 ** 12:
                    program.append((top, bottom))
            yield tuple(program)
