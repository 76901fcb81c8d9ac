import itertools
import random
import unittest

from things import (ADDING, ALL_GO, EXCHANGING, MULTIPLYING, ONE, PRIME_TELLING, SIXTEEN, TEN, by_hand, changes_of,
                    of_every_kind, same, small_powers, small_programs, some_programs, told_twice, walk, with_powers)
from wholefract.errors import AtRest
from wholefract.programs import is_program
from wholefract.steps import first_fit, leap
from wholefract.weights import are_weights, is_balance, weighed, weight_of

FAR = 10 ** 60 - 1
# Each prime but the last becomes as many of the next as a top can hold.
SPREADING = tuple((prime ** often, below) for below, prime, often in
                  zip(TEN, TEN[1:], (25, 17, 14, 11, 10, 9, 9, 8, 8))) + ((1, 29),)
# Round by all ten primes: five are gathered, many for one of the next, and five spread, one for many of the next.
GATHERING = ((7, 3 ** 25), (13, 7 ** 14), (19, 13 ** 10), (29, 19 ** 9), (2 ** 39, 29 ** 8), (5 ** 17, 2),
             (11 ** 11, 5), (17 ** 9, 11), (23 ** 8, 17), (3, 23))

# Where weights or a balance are sought by going from one try to the next, these lead astray into a round of tries.
LEADING_ASTRAY = (((845, 7), (9, 165620), (33, 2275), (25350, 5929), (1, 25740), (1002001, 90), (5445, 91),
                   (76050, 77)),
                  ((33, 377616070), (568548799, 180), (125628, 4847227), (17, 6656650), (121, 4437767775),
                   (13238225, 16473), (4777721, 235620), (91091, 225), (58121, 65025), (4072899831, 2668),
                   (10580, 17619327), (18150, 86411)))


def weights_by_the_words(program, row):
    return all(by_hand(row, change) < 0 for change in changes_of(program))


def balance_by_the_words(program, numbers):
    changes = changes_of(program)
    sums = [sum(many * change[place] for many, change in zip(numbers, changes)) for place in range(10)]
    return any(number > 0 for number in numbers) and min(sums) >= 0


def programs_of_all_kinds():
    yield from some_programs()
    yield from small_programs(300, 2, 163)
    yield from small_programs(300, 5, 167)
    yield from (SPREADING, GATHERING, SPREADING[::-1], GATHERING[::-1], ((3, 2),) * 16, ((1, 1),) * 16,
                ((1, 2), (1, 1)), ((2, 1),), ((3, 2), (2, 3)), ((9, 2), (2, 9), (5, 3)), ((3, 2), (5, 3), (2, 5)),
                ((3, 2), (5, 3), (1, 5)), ((1, 29 ** 8),), ((29 ** 8, 1),), ((2 ** 39, 3 ** 25), (3 ** 25, 2 ** 39)),
                ((2 ** 39, 3 ** 25), (3 ** 24, 2 ** 38)), ((2 ** 38, 3 ** 25), (3 ** 25, 2 ** 39)))
    yield from LEADING_ASTRAY
    yield from (SIXTEEN[:many] for many in range(1, 17))
    yield from (((1, 2),) * many + ((1, 1),) for many in range(16))
    yield from stopping_programs()


def stopping_programs():
    """Programs of up to sixteen fractions, each of which lessens a hidden weight."""
    chance = random.Random(173)
    for many in range(1, 17):
        for primes in (1, 2, 4, 10):
            hidden = [chance.choice((0, 1, 2, 7, 60)) for _ in range(primes - 1)] + [1]
            hidden += [0] * (10 - primes)
            program = []
            while len(program) < many:
                top = bottom = 1
                for prime in TEN[:primes]:
                    often = chance.choice((0, 0, 1, 2, 3))
                    top, bottom = chance.choice(((top * prime ** often, bottom), (top, bottom * prime ** often)))
                fraction = (top, bottom)
                if is_program((fraction,)) and weights_by_the_words((fraction,), hidden):
                    program.append(fraction)
            yield tuple(program)


class AreWeights(unittest.TestCase):
    def are(self, program, thing):
        self.assertIs(told_twice(are_weights, program, thing), True, repr(thing)[:200])

    def are_none(self, program, thing):
        self.assertIs(told_twice(are_weights, program, thing), False, repr(thing)[:200])

    def test_just_nought_and_just_one_less(self):
        for one, other in itertools.permutations(range(10), 2):
            row = [0] * 10
            row[one], row[other] = 5, 4
            self.are(((TEN[other], TEN[one]),), tuple(row))
            row[other] = 5
            self.are_none(((TEN[other], TEN[one]),), tuple(row))
            row[other] = 6
            self.are_none(((TEN[other], TEN[one]),), tuple(row))

    def test_ordinary(self):
        self.are(ADDING, (1,) + (0,) * 9)
        self.are(ADDING, (2, 1) + (7,) * 8)
        self.are_none(ADDING, (0, 1) + (0,) * 8)
        self.are_none(ADDING, ONE)
        self.are(ALL_GO, (1,) * 10)
        self.are_none(ALL_GO, (1,) * 9 + (0,))
        self.are(((9, 2),), (3, 1) + (0,) * 8)
        self.are_none(((9, 2),), (2, 1) + (0,) * 8)
        self.are(EXCHANGING, (2, 1, 1, 7, 1) + (0,) * 5)
        self.are_none(EXCHANGING, (2, 1, 1, 6, 1) + (0,) * 5)
        for row in (ONE, (1,) * 10, (FAR,) * 10):
            self.are_none(((1, 1),), row)
            self.are_none(((6, 1),), row)
            self.are_none(((3, 2), (1, 1)), row)

    def test_each_fraction_counts(self):
        for place in range(4):
            self.are_none(((3, 2),) * place + ((2, 3),) + ((3, 2),) * (3 - place), (2, 1) + (0,) * 8)

    def test_told_ones_and_one_number_otherwise(self):
        are = are_none = 0
        for program in programs_of_all_kinds():
            word, row = weighed(program)
            if word == "balance":
                continue
            self.are(program, row)
            self.are(program, tuple(10 ** 50 * number for number in row))
            for place in range(10):
                for other in (row[place] + 1, row[place] - 1, 0, 10 ** 59):
                    changed = row[:place] + (other,) + row[place + 1:]
                    expected = other >= 0 and weights_by_the_words(program, changed)
                    self.assertIs(are_weights(program, changed), expected)
                    are, are_none = are + expected, are_none + (not expected)
                for wrong in (-1, -row[place] - 1, True, False, bool(row[place]), None, "1", [row[place]], (), {}):
                    self.are_none(program, row[:place] + (wrong,) + row[place + 1:])
        self.assertGreater(min(are, are_none), 500)

    def test_below_nought_though_the_sums_would_do(self):
        self.are_none(ADDING, (1, 0, -1) + (0,) * 7)
        self.are_none(ADDING, (1, -1) + (0,) * 8)
        self.are_none(((2, 1),), (-1,) + (0,) * 9)

    def test_how_many_numbers(self):
        for many in (0, 1, 2, 9, 11, 12, 20, 9999):
            self.are_none(ADDING, ((3, 1) + (0,) * 9998)[:many])
            self.are_none(ALL_GO, (1,) * many)
        self.are(ADDING, (3, 1) + (0,) * 8)

    def test_lists_and_the_like(self):
        row = (2, 1) + (0,) * 8
        for thing in (list(row), dict(enumerate(row)), (row,), [row], str(row), "2100000000", {row: row},
                      ("weights", row)):
            self.are_none(ADDING, thing)

    def test_far_numbers(self):
        self.are(ADDING, (FAR, FAR - 1) + (FAR,) * 8)
        self.are_none(ADDING, (FAR, FAR) + (0,) * 8)
        self.are_none(ADDING, (FAR - 1, FAR) + (0,) * 8)
        self.are_none(ADDING, (FAR, 0, -FAR) + (0,) * 7)

    def test_of_anything(self):
        for program in (ADDING, ALL_GO, ((1, 1),)):
            for thing in of_every_kind():
                self.are_none(program, thing)

    def test_against_the_words(self):
        chance = random.Random(179)
        are = 0
        for program in small_programs(1500, 2, 181):
            row = tuple(chance.randint(0, 3) for _ in range(2)) + (1,) * 8
            expected = weights_by_the_words(program, row)
            are += expected
            self.assertIs(are_weights(program, row), expected)
        self.assertGreater(are, 50)


class IsBalance(unittest.TestCase):
    def is_one(self, program, thing):
        self.assertIs(told_twice(is_balance, program, thing), True, repr(thing)[:200])

    def is_none(self, program, thing):
        self.assertIs(told_twice(is_balance, program, thing), False, repr(thing)[:200])

    def test_just_nought_and_just_one_less_for_each_prime(self):
        for one, other in itertools.permutations(TEN, 2):
            program = ((one ** 3, other ** 2), (other ** 4, one ** 6))
            self.is_one(program, (2, 1))
            self.is_one(program, (200, 100))
            self.is_none(program, (201, 100))
            self.is_none(program, (199, 100))
            program = ((one ** 3, other ** 2), (other ** 3, one ** 4))
            self.is_one(program, (3, 2))
            self.is_one(program, (4, 3))
            self.is_none(program, (1, 1))
            self.is_none(program, (5, 4))
            self.is_none(program, (2, 1))

    def test_all_noughts_and_one_alone(self):
        for many in (1, 2, 16):
            program = ((6, 1),) * many
            self.is_none(program, (0,) * many)
            for place in range(many):
                for number in (1, 2, FAR):
                    self.is_one(program, (0,) * place + (number,) + (0,) * (many - place - 1))
                    self.is_none(((3, 2),) * many, (0,) * place + (number,) + (0,) * (many - place - 1))
        self.is_one(((3, 2), (1, 1), (5, 7)), (0, 1, 0))
        self.is_none(((3, 2), (1, 1), (5, 7)), (1, 1, 0))
        self.is_none(((3, 2), (1, 1), (5, 7)), (0, 1, 1))

    def test_ordinary(self):
        self.is_one(MULTIPLYING, (1, 1, 0, 1, 0, 0))
        self.is_none(MULTIPLYING, (1, 1, 0, 0, 0, 0))
        self.is_one(((3, 2), (2, 3)), (7, 7))
        self.is_none(((3, 2), (2, 3)), (7, 8))
        self.is_one(((3, 2), (5, 3), (2, 5)), (1, 1, 1))

    def test_as_many_as_there_are_fractions(self):
        for many in (1, 2, 3, 9, 10, 11, 15, 16):
            for length in (0, 1, 2, many - 1, many, many + 1, 10, 9999):
                if length == many:
                    self.is_one(((1, 1),) * many, (1,) * length)
                else:
                    self.is_none(((1, 1),) * many, (1,) * length)

    def test_told_ones_and_one_number_otherwise(self):
        ones = nones = 0
        for program in programs_of_all_kinds():
            word, numbers = weighed(program)
            if word == "weights":
                continue
            self.is_one(program, numbers)
            self.is_one(program, tuple(10 ** 50 * number for number in numbers))
            self.is_none(program, numbers[:-1])
            self.is_none(program, numbers + (0,))
            for place in range(len(program)):
                for other in (numbers[place] + 1, numbers[place] - 1, 0, 10 ** 59):
                    changed = numbers[:place] + (other,) + numbers[place + 1:]
                    expected = other >= 0 and balance_by_the_words(program, changed)
                    self.assertIs(is_balance(program, changed), expected)
                    ones, nones = ones + expected, nones + (not expected)
                for wrong in (-1, -numbers[place] - 1, True, False, bool(numbers[place]), None, "1", [1], (), {}):
                    self.is_none(program, numbers[:place] + (wrong,) + numbers[place + 1:])
        self.assertGreater(min(ones, nones), 500)

    def test_below_nought_though_the_sums_would_do(self):
        self.is_none(((1, 2),), (-1,))
        self.is_none(((6, 1), (1, 2)), (1, -1))
        self.is_none(((6, 1), (2, 1)), (1, -1))
        self.is_none(((1, 1), (1, 1)), (1, -1))

    def test_truths_for_numbers(self):
        self.is_one(((3, 2), (2, 3)), (1, 1))
        for thing in ((True, 1), (1, True), (True, True), (False, False)):
            self.is_none(((3, 2), (2, 3)), thing)
        self.is_one(((1, 1), (3, 2)), (1, 0))
        self.is_none(((1, 1), (3, 2)), (1, False))

    def test_lists_and_the_like(self):
        for thing in ([1, 1], {0: 1, 1: 1}, {1: 1, 2: 1}, ((1, 1),), [(1, 1)], "11", "(1, 1)", ("balance", (1, 1))):
            self.is_none(((3, 2), (2, 3)), thing)

    def test_far_numbers(self):
        self.is_one(((3, 2), (2, 3)), (FAR, FAR))
        self.is_none(((3, 2), (2, 3)), (FAR, FAR - 1))
        self.is_none(((3, 2), (2, 3)), (FAR - 1, FAR))
        self.is_none(((3, 2), (2, 3)), (-FAR, -FAR))

    def test_of_anything(self):
        for program in (ADDING, ((1, 1),), ((3, 2), (2, 3)), SIXTEEN, ALL_GO):
            for thing in of_every_kind():
                expected = program == ((1, 1),) and same(thing, (1,))
                self.assertIs(told_twice(is_balance, program, thing), expected, repr(thing)[:200])

    def test_against_the_words(self):
        chance = random.Random(191)
        ones = 0
        for program in small_programs(1500, 2, 193):
            numbers = tuple(chance.choice((0, 0, 1, 2)) for _ in program)
            expected = balance_by_the_words(program, numbers)
            ones += expected
            self.assertIs(is_balance(program, numbers), expected)
        self.assertGreater(ones, 50)


class WeightOf(unittest.TestCase):
    def test_ordinary(self):
        self.assertEqual(told_twice(weight_of, (2, 1) + (0,) * 8, with_powers(p2=3, p3=4, p5=9)), 10)
        self.assertEqual(weight_of(tuple(range(10)), (1,) * 10), 45)
        self.assertEqual(weight_of(ONE, (10 ** 6,) * 10), 0)
        self.assertEqual(weight_of((1,) * 10, ONE), 0)
        for place, prime in enumerate(TEN):
            self.assertEqual(weight_of(tuple(range(3, 13)), with_powers(**{f"p{prime}": 1})), place + 3)

    def test_by_any_ten_numbers_far_ones_too(self):
        chance = random.Random(197)
        for powers in small_powers(100, 10, 10 ** 6, 199):
            for most in (1, 9, 10 ** 9, FAR):
                row = tuple(chance.randint(0, most) for _ in range(10))
                self.assertEqual(weight_of(row, powers), by_hand(row, powers))
        self.assertEqual(weight_of((FAR,) * 10, (10 ** 6,) * 10), FAR * 10 ** 7)

    def test_by_weights(self):
        for program in stopping_programs():
            row = weighed(program)[1]
            for powers in small_powers(5, 10, 9, 211):
                self.assertEqual(told_twice(weight_of, row, powers), by_hand(row, powers))

    def test_of_great_powers(self):
        great = leap(((6, 1),), ONE, 10 ** 18)
        self.assertEqual(weight_of((2, 3) + (FAR,) * 8, great), 5 * 10 ** 18)


class Weighed(unittest.TestCase):
    def test_of_the_kind_it_says(self):
        words, sizes = {}, set()
        for program in programs_of_all_kinds():
            told = told_twice(weighed, program)
            self.assertEqual((told.__class__, len(told), told[1].__class__), (tuple, 2, tuple))
            word, numbers = told
            self.assertTrue(all(number.__class__ is int and number >= 0 for number in numbers))
            if word == "weights":
                self.assertEqual(len(numbers), 10)
                self.assertTrue(weights_by_the_words(program, numbers), program)
            else:
                self.assertEqual(word, "balance")
                self.assertEqual(len(numbers), len(program))
                self.assertTrue(balance_by_the_words(program, numbers), program)
            words[word] = words.get(word, 0) + 1
            sizes.add((word, len(program)))
        self.assertGreater(min(words.values()), 100)
        for size in ((word, many) for word in ("weights", "balance") for many in range(1, 17)):
            self.assertIn(size, sizes)

    def test_which_of_both(self):
        for program in (ADDING, EXCHANGING, ALL_GO, SPREADING, ((1, 2),), ((3, 2),) * 16, ((3, 2), (5, 3), (1, 5)),
                        ((1, 29 ** 8),), ((2 ** 38, 3 ** 25), (3 ** 25, 2 ** 39)), ((3, 2), (7, 5), (13, 11))):
            for order in (program, program[::-1]):
                self.assertEqual(weighed(order)[0], "weights", order)
        for program in (MULTIPLYING, PRIME_TELLING, SIXTEEN, GATHERING, ((1, 1),), ((6, 1),), ((1, 2), (1, 1)),
                        ((3, 2), (2, 3)), ((3, 2), (5, 1)), ((3, 2), (5, 3), (2, 5)),
                        ((2 ** 39, 3 ** 25), (3 ** 25, 2 ** 39)), ((1, 2), (1, 3), (7, 5), (5, 7))):
            for order in (program, program[::-1]):
                self.assertEqual(weighed(order)[0], "balance", order)

    def test_the_other_one_for_a_little_more(self):
        # As many threes as a two becomes, and one fewer or more that make a two again.
        for often in range(2, 25):
            self.assertEqual(weighed(((3 ** often, 2), (2, 3 ** often)))[0], "balance")
            self.assertEqual(weighed(((3 ** often, 2), (2, 3 ** (often - 1))))[0], "balance")
            self.assertEqual(weighed(((3 ** often, 2), (2, 3 ** (often + 1))))[0], "weights")

    def test_against_all_small_weights_tried(self):
        # With two primes, each at most three times, weights of at most 18 are there if there are any.
        found = {True: 0, False: 0}
        for program in small_programs(250, 2, 223):
            there = any(weights_by_the_words(program, (one, other) + (0,) * 8)
                        for one in range(19) for other in range(19))
            self.assertEqual(weighed(program)[0] == "weights", there, program)
            found[there] += 1
        self.assertGreater(min(found.values()), 30)

    def test_never_both(self):
        chance = random.Random(227)
        seen = set()
        for program in small_programs(400, 2, 229):
            row = tuple(chance.randint(0, 4) for _ in range(2)) + (0,) * 8
            numbers = tuple(chance.choice((0, 1, 2)) for _ in program)
            told = (are_weights(program, row), is_balance(program, numbers))
            seen.add(told)
            self.assertNotEqual(told, (True, True))
            word, some = weighed(program)
            self.assertFalse(told[0] and word == "balance")
            self.assertFalse(told[1] and word == "weights")
        self.assertEqual(seen, {(True, False), (False, True), (False, False)})

    def test_great_ones(self):
        self.assertTrue(is_program(SPREADING) and is_program(GATHERING))
        word, row = told_twice(weighed, SPREADING)
        self.assertEqual(word, "weights")
        self.assertGreater(max(row), 10 ** 9)
        self.assertIs(are_weights(SPREADING, row), True)
        word, numbers = told_twice(weighed, GATHERING)
        self.assertEqual(word, "balance")
        self.assertGreater(max(numbers), 10 ** 5)
        self.assertIs(is_balance(GATHERING, numbers), True)

    def test_powers_stop_within_as_many_steps_as_their_weight(self):
        rested = 0
        for program in itertools.chain(stopping_programs(), small_programs(150, 3, 233), (ADDING, EXCHANGING, ALL_GO)):
            word, row = weighed(program)
            if word == "balance":
                continue
            for powers in small_powers(6, 10, 4, 239):
                weight = weight_of(row, powers)
                used = walk(program, powers, min(weight, 200) + 1)[1]
                self.assertLessEqual(len(used), weight)
                rested += len(used) < 200
        self.assertGreater(rested, 200)

    def test_far_powers_stop_within_their_weight(self):
        for program in (ADDING, ALL_GO, ((8, 7), (3, 2))):
            row = weighed(program)[1]
            powers = (10 ** 6,) * 10
            weight = weight_of(row, powers)
            try:
                self.assertIsNone(first_fit(program, leap(program, powers, weight)))
            except AtRest as refusal:
                self.assertLessEqual(refusal.steps, weight)
