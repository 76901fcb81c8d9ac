import fractions
import math
import random
import unittest

from things import (ADDING, ALL_GO, EXCHANGING, MULTIPLYING, ONE, PRIME_TELLING, SIXTEEN, TEN, by_hand, changes_of,
                    factored, of_every_kind, small_powers, small_programs, some_programs, told_twice, walk,
                    with_powers)
from wholefract.kept import base, is_kept, parted_by, sum_by
from wholefract.steps import leap

UNITS = [factored(prime) for prime in TEN]


def independent(rows):
    """How many of the rows are independent, reckoned by fractions."""
    rows, many = [[fractions.Fraction(number) for number in row] for row in rows], 0
    for place in range(10):
        leading = next((row for row in rows if row[place] != 0), None)
        if leading is not None:
            many += 1
            rows.remove(leading)
            rows = [[a - b * row[place] / leading[place] for a, b in zip(row, leading)] for row in rows]
    return many


class IsKept(unittest.TestCase):
    def is_one(self, program, thing):
        self.assertIs(told_twice(is_kept, program, thing), True, repr(thing)[:200])

    def is_none(self, program, thing):
        self.assertIs(told_twice(is_kept, program, thing), False, repr(thing)[:200])

    def test_ordinary(self):
        self.is_one(ADDING, (1, 1) + (0,) * 8)
        self.is_one(ADDING, (-3, -3, 7) + (0,) * 7)
        self.is_none(ADDING, (1, 2) + (0,) * 8)
        self.is_none(ADDING, (1, -1) + (0,) * 8)
        self.is_none(((1, 2),), UNITS[0])
        self.is_one(((1, 2),), UNITS[1])
        self.is_one(((4, 27),), (3, 2) + (0,) * 8)

    def test_noughts_are_kept_by_all(self):
        for program in some_programs():
            self.is_one(program, ONE)
        for row in UNITS:
            self.is_one(((1, 1),), row)
            self.is_none(ALL_GO, row)

    def test_by_each_fraction(self):
        for place in range(4):
            program = ((3, 2),) * place + ((1, 2),) + ((3, 2),) * (3 - place)
            self.is_none(program, (1, 1) + (0,) * 8)

    def test_rows_of_the_base_and_their_sums(self):
        chance = random.Random(101)
        for program in some_programs():
            rows = base(program)
            for row in rows:
                self.is_one(program, row)
                self.is_one(program, tuple(-number for number in row))
                self.is_one(program, tuple(10 ** 50 * number for number in row))
            for _ in range(3):
                often = [chance.randint(-9, 9) for _ in rows]
                self.is_one(program, tuple(sum(many * row[place] for many, row in zip(often, rows))
                                           for place in range(10)))

    def test_one_number_otherwise(self):
        for program in some_programs():
            changes = changes_of(program)
            for row in base(program):
                for place in range(10):
                    for more in (1, -1, 10 ** 30):
                        other = row[:place] + (row[place] + more,) + row[place + 1:]
                        kept = all(change[place] == 0 for change in changes)
                        self.assertIs(is_kept(program, other), kept)

    def test_against_the_words(self):
        chance = random.Random(103)
        kept = 0
        for program in small_programs(400, 3, 107):
            row = tuple(chance.randint(-2, 2) for _ in range(3)) + (5,) * 7
            expected = all(by_hand(row, change) == 0 for change in changes_of(program))
            kept += expected
            self.assertIs(is_kept(program, row), expected)
        self.assertGreater(kept, 5)

    def test_how_many_numbers(self):
        for many in (0, 1, 9, 11, 20, 9999):
            self.is_none(((1, 1),), (0,) * many)
            self.is_none(ADDING, (1,) * many)
        self.is_one(ADDING, (1,) * 10)

    def test_truths_lists_and_the_like(self):
        row = (1, 1) + (0,) * 8
        self.is_one(ADDING, row)
        for other in (list(row), dict(enumerate(row)), (row,), str(row), "1100000000"):
            self.is_none(ADDING, other)
        for place in range(10):
            for wrong in (True, False, None, "", "0", "1", [], [0], (), (0,), {}, {0: 0}, bool(row[place])):
                self.is_none(ADDING, row[:place] + (wrong,) + row[place + 1:])

    def test_far_numbers(self):
        far = 10 ** 60 - 1
        self.is_one(ADDING, (far,) * 10)
        self.is_one(ADDING, (-far, -far) + (far,) * 8)
        self.is_none(ADDING, (far, far - 1) + (far,) * 8)
        self.is_none(ADDING, (far, -far) + (far,) * 8)

    def test_of_anything(self):
        for program in (ADDING, ((1, 1),), ALL_GO):
            for thing in of_every_kind():
                self.is_none(program, thing)


class SumBy(unittest.TestCase):
    def test_ordinary(self):
        self.assertEqual(told_twice(sum_by, (1, 1) + (0,) * 8, with_powers(p2=3, p3=4, p5=9)), 7)
        self.assertEqual(sum_by(tuple(range(10)), (1,) * 10), 45)
        self.assertEqual(sum_by(ONE, (10 ** 6,) * 10), 0)
        self.assertEqual(sum_by((1,) * 10, ONE), 0)
        for place in range(10):
            self.assertEqual(sum_by(UNITS[place], tuple(range(3, 13))), place + 3)

    def test_below_nought_and_far(self):
        self.assertEqual(sum_by((-1, 2, -3) + (0,) * 7, with_powers(p2=5, p3=1, p5=2)), -9)
        far = 10 ** 60 - 1
        self.assertEqual(sum_by((far,) * 10, (10 ** 6,) * 10), far * 10 ** 7)
        self.assertEqual(sum_by((-far,) * 10, (10 ** 6,) * 10), -far * 10 ** 7)
        self.assertEqual(sum_by((far, -far) + (0,) * 8, (10 ** 6, 10 ** 6 - 1) + (7,) * 8), far)

    def test_against_the_words(self):
        chance = random.Random(109)
        for powers in small_powers(100, 10, 10 ** 6, 113):
            row = tuple(chance.randint(-10 ** 9, 10 ** 9) for _ in range(10))
            self.assertEqual(sum_by(row, powers), by_hand(row, powers))

    def test_no_step_changes_the_sum_by_a_kept_row(self):
        for program, powers in zip(small_programs(80, 5, 127), small_powers(80, 5, 9, 131)):
            for row in base(program):
                for reached in walk(program, powers, 15)[0]:
                    self.assertEqual(sum_by(row, reached), sum_by(row, powers))

    def test_a_leap_doesnt_either(self):
        powers = with_powers(p2=10 ** 6, p3=5, p7=11)
        far = leap(EXCHANGING, powers, 10 ** 5)
        for row in base(EXCHANGING):
            self.assertEqual(sum_by(row, far), sum_by(row, powers))
        great = leap(((6, 1),), ONE, 10 ** 18)
        self.assertEqual(sum_by((1, -1) + (0,) * 8, great), 0)
        self.assertEqual(sum_by((1, 1) + (0,) * 8, great), 2 * 10 ** 18)


class Base(unittest.TestCase):
    def test_form(self):
        sizes = set()
        for program in some_programs():
            rows = told_twice(base, program)
            self.assertIs(rows.__class__, list)
            firsts = []
            for row in rows:
                self.assertIs(row.__class__, tuple)
                self.assertEqual([number.__class__ for number in row], [int] * 10)
                self.assertIs(is_kept(program, row), True)
                self.assertTrue(all(by_hand(row, change) == 0 for change in changes_of(program)))
                self.assertEqual(math.gcd(*row), 1)
                firsts.append(next(place for place in range(10) if row[place] != 0))
                self.assertGreater(row[firsts[-1]], 0)
            self.assertEqual(firsts, sorted(set(firsts)))
            for row in rows:
                self.assertEqual(sum(row[place] != 0 for place in firsts), 1)
            self.assertEqual(len(rows), 10 - independent(changes_of(program)))
            sizes.add(len(rows))
        self.assertEqual(sizes, set(range(11)))

    def test_written_out(self):
        self.assertEqual(base(ADDING), [(1, 1) + (0,) * 8] + UNITS[2:])
        self.assertEqual(base(((1, 1),)), UNITS)
        self.assertEqual(base(((1, 6),)), [(1, -1) + (0,) * 8] + UNITS[2:])
        self.assertEqual(base(((4, 27),)), [(3, 2) + (0,) * 8] + UNITS[2:])
        self.assertEqual(base(((27, 4),)), [(3, 2) + (0,) * 8] + UNITS[2:])
        self.assertEqual(base(((16, 81),)), [(1, 1) + (0,) * 8] + UNITS[2:])
        # a = b, 2 b = c, 3 a = d: the two primes of 11 / 13 are a row of their own
        self.assertEqual(base(EXCHANGING), [(1, 1, 2, 3) + (0,) * 6, (0,) * 4 + (1, 1) + (0,) * 4] + UNITS[6:])
        self.assertEqual(base(MULTIPLYING), UNITS[6:])
        # 2 a + 3 b = 5 c
        self.assertEqual(base(((2 ** 2 * 3 ** 3, 5 ** 5),)),
                         [(5, 0, 2) + (0,) * 7, (0, 5, 3) + (0,) * 7] + UNITS[3:])

    def test_primes_that_go_into_no_fraction(self):
        for place, prime in enumerate(TEN):
            self.assertEqual(base(((1, prime),)), UNITS[:place] + UNITS[place + 1:])
            others = tuple((1, other) for other in TEN if other != prime)
            self.assertEqual(base(others), [UNITS[place]])

    def test_empty(self):
        self.assertEqual(told_twice(base, ALL_GO), [])
        self.assertEqual(base(ALL_GO[::-1]), [])
        self.assertEqual(base(PRIME_TELLING), [])
        self.assertEqual(base(SIXTEEN), [])

    def test_one_fraction_and_sixteen(self):
        self.assertEqual(len(base(((6469693230, 1),))), 9)
        self.assertEqual(base(((3, 2),) * 16), base(ADDING))
        self.assertEqual(base(((3, 2), (2, 3)) * 8), base(ADDING))
        many = tuple((TEN[place], TEN[place - 1]) for place in range(1, 10)) + ((4, 9),) * 7
        self.assertEqual(base(many), [(1,) * 10])
        self.assertEqual(base(many[::-1]), [(1,) * 10])

    def test_the_order_of_the_fractions_is_nothing_to_it(self):
        for program in some_programs():
            self.assertEqual(base(program[::-1]), base(program))
            self.assertEqual(base(tuple((bottom, top) for top, bottom in program)), base(program))

    def test_a_told_base_is_the_askers_own(self):
        for program in (ADDING, ALL_GO, ((1, 1),)):
            told = base(program)
            kept = list(told)
            told.append(ONE)
            told[0] = None
            self.assertEqual(base(program), kept)
            self.assertIs(parted_by(program, ONE, ONE), None)


class PartedBy(unittest.TestCase):
    def test_the_first_row(self):
        self.assertEqual(told_twice(parted_by, ADDING, with_powers(p2=3), with_powers(p2=4)), (1, 1) + (0,) * 8)
        self.assertEqual(parted_by(ADDING, with_powers(p2=3, p5=1), with_powers(p3=4)), (1, 1) + (0,) * 8)

    def test_a_later_row(self):
        self.assertEqual(parted_by(ADDING, with_powers(p2=3, p5=1), with_powers(p3=3)), UNITS[2])
        self.assertEqual(parted_by(ADDING, with_powers(p29=1), ONE), UNITS[9])
        self.assertEqual(parted_by(ADDING, with_powers(p7=1, p29=1), with_powers(p7=2)), UNITS[3])
        self.assertEqual(parted_by(EXCHANGING, with_powers(p2=2, p11=1), with_powers(p5=1)),
                         (0,) * 4 + (1, 1) + (0,) * 4)

    def test_none(self):
        self.assertIsNone(told_twice(parted_by, ADDING, with_powers(p2=3), with_powers(p3=3)))
        self.assertIsNone(parted_by(EXCHANGING, with_powers(p2=3), with_powers(p7=1)))
        self.assertIsNone(parted_by(ALL_GO, ONE, (10 ** 6,) * 10))
        self.assertIsNone(parted_by(ADDING, (10 ** 6,) * 10, (10 ** 6,) * 10))

    def test_against_the_words(self):
        found = {True: 0, False: 0}
        for program, one, other in zip(small_programs(300, 4, 137), small_powers(300, 4, 3, 139),
                                       small_powers(300, 4, 3, 149)):
            unlike = [row for row in base(program) if by_hand(row, one) != by_hand(row, other)]
            told = parted_by(program, one, other)
            self.assertEqual(told, unlike[0] if unlike else None)
            self.assertEqual(parted_by(program, other, one), told)
            found[told is None] += 1
        self.assertGreater(min(found.values()), 20)

    def test_powers_and_what_they_become(self):
        for program, powers in zip(small_programs(80, 5, 151), small_powers(80, 5, 9, 157)):
            for reached in walk(program, powers, 12)[0]:
                self.assertIsNone(parted_by(program, powers, reached))
                self.assertIsNone(parted_by(program, reached, powers))
        great = leap(ADDING, with_powers(p2=10 ** 6), 999999)
        self.assertIsNone(parted_by(ADDING, great, with_powers(p2=10 ** 6)))
