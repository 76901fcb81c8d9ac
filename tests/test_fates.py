import unittest

from things import (ADDING, MULTIPLYING, ONE, PRIME_TELLING, of_every_kind, small_powers, small_programs, told_twice,
                    walk, with_powers)
from wholefract.fates import fate, is_fate, meet
from wholefract.steps import after, leap

# First each 17 goes, then 2^n goes over to 3^n and back: a round of 4n + 2 steps.
TURNING = ((1, 17), (21, 10), (5, 7), (26, 33), (11, 13), (11, 5), (5, 11))


def turning(begin, twos):
    return with_powers(p2=twos, p5=1, p17=begin)


def fate_by_numbers(program, powers, most):
    """The fate found by comparing all with all."""
    reached, used = walk(program, powers, most + 1)
    if len(used) <= most:
        return ("rests", len(used), reached[-1])
    for steps in range(most + 1):
        for length in range(1, most - steps + 1):
            if reached[steps] == reached[steps + length]:
                return ("round", steps, length)
    return ("open",)


class Fate(unittest.TestCase):
    def test_against_all_with_all(self):
        words = {}
        for program, powers in zip(small_programs(500), small_powers(500, greatest=6)):
            for most in (0, 1, 2, 3, 5, 8, 13, 20):
                told = told_twice(fate, program, powers, most)
                self.assertEqual(told, fate_by_numbers(program, powers, most))
                words[told[0]] = words.get(told[0], 0) + 1
        self.assertGreater(min(words[word] for word in ("rests", "round", "open")), 50)

    def test_rests(self):
        self.assertEqual(fate(ADDING, with_powers(p3=4), 0), ("rests", 0, with_powers(p3=4)))
        self.assertEqual(fate(ADDING, with_powers(p3=4), 400), ("rests", 0, with_powers(p3=4)))
        for steps in (1, 2, 199, 400):
            powers = with_powers(p2=steps)
            self.assertEqual(fate(ADDING, powers, steps), ("rests", steps, with_powers(p3=steps)))
            self.assertEqual(fate(ADDING, powers, steps - 1), ("open",))
            self.assertEqual(fate(ADDING, powers, 400), ("rests", steps, with_powers(p3=steps)))
        self.assertEqual(fate(ADDING, with_powers(p2=401), 400), ("open",))
        self.assertEqual(fate(MULTIPLYING, with_powers(p2=3, p3=4), 400), ("rests", 46, with_powers(p5=12)))

    def test_rounds(self):
        for begin, twos in ((0, 0), (0, 1), (3, 0), (1, 2), (5, 9), (38, 90), (398, 0)):
            powers, length = turning(begin, twos), 4 * twos + 2
            self.assertEqual(told_twice(fate, TURNING, powers, 400), ("round", begin, length))
            self.assertEqual(fate(TURNING, powers, begin + length), ("round", begin, length))
            self.assertEqual(fate(TURNING, powers, begin + length - 1), ("open",))
        self.assertEqual(fate(TURNING, turning(39, 90), 400), ("open",))
        self.assertEqual(fate(TURNING, turning(399, 0), 400), ("open",))

    def test_rounds_of_one_step(self):
        for powers in (ONE, (10 ** 6,) * 10):
            self.assertEqual(fate(((1, 1),), powers, 400), ("round", 0, 1))
            self.assertEqual(fate(((1, 1),), powers, 1), ("round", 0, 1))
            self.assertEqual(fate(((1, 1),), powers, 0), ("open",))
        self.assertEqual(fate(((3, 2), (1, 1)), with_powers(p2=5), 400), ("round", 5, 1))

    def test_the_first_is_not_in_the_round(self):
        self.assertEqual(fate(((3, 2), (2, 3)), with_powers(p2=2), 400), ("round", 1, 2))
        self.assertEqual(fate(((3, 2), (2, 3)), with_powers(p2=2), 3), ("round", 1, 2))
        self.assertEqual(fate(((3, 2), (2, 3)), with_powers(p2=2), 2), ("open",))

    def test_open(self):
        for most in (0, 1, 400):
            self.assertEqual(fate(((2, 1),), ONE, most), ("open",))
            self.assertEqual(fate(PRIME_TELLING, with_powers(p2=1), most), ("open",))

    def test_no_steps(self):
        self.assertEqual(fate(ADDING, with_powers(p2=1), 0), ("open",))
        self.assertEqual(fate(ADDING, ONE, 0), ("rests", 0, ONE))
        self.assertEqual(fate(TURNING, turning(0, 1), 0), ("open",))

    def test_kinds(self):
        for told in (fate(ADDING, with_powers(p2=1), 9), fate(TURNING, turning(1, 1), 99), fate(((2, 1),), ONE, 3)):
            self.assertIs(told.__class__, tuple)
            self.assertEqual([part.__class__ for part in told[1:2]], [int] * len(told[1:2]))

    def test_however_great(self):
        great = leap(((2, 1),), ONE, 10 ** 18)
        self.assertEqual(fate(((1, 3), (3, 5)), great, 3), ("rests", 0, great))
        self.assertEqual(fate(((3, 2), (2, 3)), great, 400), ("open",))
        self.assertEqual(fate(((1, 1),), great, 400), ("round", 0, 1))


class IsFate(unittest.TestCase):
    def is_one(self, program, powers, thing):
        self.assertIs(told_twice(is_fate, program, powers, thing), True, repr(thing)[:200])

    def is_none(self, program, powers, thing):
        self.assertIs(told_twice(is_fate, program, powers, thing), False, repr(thing)[:200])

    def none_with_one_thing_otherwise(self, program, powers, told):
        self.is_none(program, powers, list(told))
        self.is_none(program, powers, {0: told[0], 1: told[1], 2: told[2]})
        for longer in (told + (0,), told + (None,), told + ((),), (told,), told + told):
            self.is_none(program, powers, longer)
        for shorter in (told[:2], told[:1], told[1:], ()):
            self.is_none(program, powers, shorter)
        for word in ("rests", "round", "open", "Rests", "rest", "", " rests", None, 0, True, ("rests",), ["round"]):
            if word != told[0]:
                self.is_none(program, powers, (word,) + told[1:])
        for place in (1, 2):
            for thing in of_every_kind() + ["1", [told[place]], (told[place],), str(told[place])]:
                if thing.__class__ is bool or thing != told[place]:
                    self.is_none(program, powers, told[:place] + (thing,) + told[place + 1:])
        for steps in (told[1] - 1, told[1] + 1, -1, 10 ** 59, bool(told[1]), None):
            self.is_none(program, powers, (told[0], steps, told[2]))

    def test_rests(self):
        for program, powers in ((ADDING, ONE), (ADDING, with_powers(p2=1)), (ADDING, with_powers(p2=400)),
                                (MULTIPLYING, with_powers(p2=3, p3=4)), (ADDING, with_powers(p2=1, p3=1, p29=1)),
                                (((1, 2),), with_powers(p2=2))):
            told = fate(program, powers, 400)
            self.is_one(program, powers, told)
            self.none_with_one_thing_otherwise(program, powers, told)
            for place in range(10):
                at_rest = told[2]
                for other in (at_rest[place] + 1, at_rest[place] - 1, bool(at_rest[place]), None, "0", [], ()):
                    self.is_none(program, powers,
                                 told[:2] + (at_rest[:place] + (other,) + at_rest[place + 1:],))
            for other in (list(told[2]), told[2] + (0,), told[2][:9], (), (told[2],)):
                self.is_none(program, powers, told[:2] + (other,))

    def test_rounds(self):
        for program, powers in ((TURNING, turning(0, 0)), (TURNING, turning(1, 0)), (TURNING, turning(7, 5)),
                                (TURNING, turning(38, 90)), (((1, 1),), ONE), (((3, 2), (2, 3)), with_powers(p2=2)),
                                (((3, 2), (1, 1)), with_powers(p2=1))):
            told = fate(program, powers, 400)
            self.assertEqual(told[0], "round")
            self.is_one(program, powers, told)
            self.none_with_one_thing_otherwise(program, powers, told)
            steps, length = told[1:]
            for other in (2 * length, 3 * length, length + 1, length - 1, -length, 0, bool(length), None, powers):
                self.is_none(program, powers, ("round", steps, other))
            for later in (steps + 1, steps + 2, steps + length, steps - 1):
                self.is_none(program, powers, ("round", later, length))

    def test_a_truth_for_one_and_nought(self):
        self.is_one(((1, 1),), ONE, ("round", 0, 1))
        for thing in (("round", False, 1), ("round", 0, True), ("round", False, True)):
            self.is_none(((1, 1),), ONE, thing)
        self.is_one(ADDING, with_powers(p2=1), ("rests", 1, with_powers(p3=1)))
        self.is_none(ADDING, with_powers(p2=1), ("rests", True, with_powers(p3=1)))
        self.is_none(ADDING, with_powers(p2=1), ("rests", 1, with_powers(p3=True)))
        self.is_none(ADDING, with_powers(p2=1), ("rests", 1, (False, 1) + (0,) * 8))

    def test_open_is_none(self):
        for program, powers in ((((2, 1),), ONE), (ADDING, ONE), (((1, 1),), ONE), (ADDING, with_powers(p2=401))):
            for thing in (("open",), ("open", 0), ("open", 0, ONE), ("open", 400, 1), "open", ["open"]):
                self.is_none(program, powers, thing)

    def test_four_hundred_steps_and_one_more(self):
        self.is_one(ADDING, with_powers(p2=400), ("rests", 400, with_powers(p3=400)))
        self.is_none(ADDING, with_powers(p2=401), ("rests", 401, with_powers(p3=401)))
        self.is_one(TURNING, turning(38, 90), ("round", 38, 362))
        self.is_none(TURNING, turning(39, 90), ("round", 39, 362))
        self.is_one(TURNING, turning(398, 0), ("round", 398, 2))
        self.is_none(TURNING, turning(399, 0), ("round", 399, 2))
        self.assertEqual(after(TURNING, turning(399, 0), 399), after(TURNING, turning(399, 0), 401))

    def test_of_anything(self):
        for program, powers in ((ADDING, with_powers(p2=1)), (TURNING, turning(1, 1)), (((2, 1),), ONE)):
            for thing in of_every_kind():
                self.is_none(program, powers, thing)
                self.is_none(program, powers, (thing, 0, 1))
                self.is_none(program, powers, (thing, thing, thing))

    def test_small_programs(self):
        for program, powers in zip(small_programs(60, seed=73), small_powers(60, seed=79)):
            told = fate(program, powers, 400)
            self.assertIs(is_fate(program, powers, told), told != ("open",))

    def test_what_was_told_whatever_its_size(self):
        great = leap(((2, 1),), ONE, 10 ** 18)
        self.is_one(((1, 3),), great, ("rests", 0, great))
        self.is_one(((1, 3),), great, fate(((1, 3),), great, 5))


class Meet(unittest.TestCase):
    def by_all_with_all(self, program, one, other, most):
        of_one = walk(program, one, most)[0]
        of_other = walk(program, other, most)[0]
        found = [(i + j, i, j) for i, a in enumerate(of_one) for j, b in enumerate(of_other) if a == b]
        if found == []:
            return None
        together, i, j = min(found)
        return (i, j, of_one[i])

    def test_against_all_that_both_become(self):
        met = 0
        for program, one, other in zip(small_programs(400, 2), small_powers(400, 2, 3),
                                       small_powers(400, 2, 3, 83)):
            for most in (0, 1, 2, 5, 12):
                told = told_twice(meet, program, one, other, most)
                self.assertEqual(told, self.by_all_with_all(program, one, other, most))
                back = meet(program, other, one, most)
                self.assertEqual(back, self.by_all_with_all(program, other, one, most))
                self.assertEqual(told is None, back is None)
                met += told is not None
        self.assertGreater(met, 100)

    def test_ordinary(self):
        one, other = with_powers(p2=5, p3=2), with_powers(p2=3, p3=4)
        self.assertEqual(told_twice(meet, ADDING, one, other, 200), (2, 0, other))
        self.assertEqual(meet(ADDING, other, one, 200), (0, 2, other))
        one, other = with_powers(p2=2, p3=3), with_powers(p2=3, p3=2)
        told = meet(MULTIPLYING, one, other, 200)
        self.assertEqual(told, self.by_all_with_all(MULTIPLYING, one, other, 200))
        self.assertEqual(meet(MULTIPLYING, other, one, 200), (told[1], told[0], told[2]))

    def test_the_same(self):
        for powers in (ONE, with_powers(p2=4), (10 ** 6,) * 10):
            for most in (0, 1, 200):
                self.assertEqual(meet(ADDING, powers, powers, most), (0, 0, powers))

    def test_the_one_becomes_the_other(self):
        for steps in (1, 2, 199, 200):
            powers, later = with_powers(p2=300), with_powers(p2=300 - steps, p3=steps)
            self.assertEqual(meet(ADDING, powers, later, 200), (steps, 0, later))
            self.assertEqual(meet(ADDING, later, powers, 200), (0, steps, later))
            self.assertEqual(meet(ADDING, powers, later, steps), (steps, 0, later))
            self.assertIsNone(meet(ADDING, powers, later, steps - 1))
            self.assertIsNone(meet(ADDING, later, powers, steps - 1))

    def test_both_in_a_round(self):
        program = ((3, 2), (5, 3), (2, 5))
        self.assertEqual(fate(program, with_powers(p2=1), 400), ("round", 0, 3))
        self.assertEqual(meet(program, with_powers(p2=1), with_powers(p3=1), 200), (1, 0, with_powers(p3=1)))
        self.assertEqual(meet(program, with_powers(p3=1), with_powers(p2=1), 200), (0, 1, with_powers(p3=1)))

    def test_as_many_together_the_fewest_of_the_one(self):
        # In a round of two each is one step from the other: 0 + 1 and 1 + 0 are as many.
        program = ((3, 2), (2, 3))
        self.assertEqual(meet(program, with_powers(p2=1), with_powers(p3=1), 200), (0, 1, with_powers(p2=1)))
        self.assertEqual(meet(program, with_powers(p3=1), with_powers(p2=1), 200), (0, 1, with_powers(p3=1)))

    def test_never(self):
        self.assertIsNone(told_twice(meet, ADDING, with_powers(p2=3), with_powers(p2=4), 200))
        self.assertIsNone(meet(((2, 1),), ONE, with_powers(p3=1), 200))
        self.assertIsNone(meet(TURNING, turning(0, 2), turning(0, 3), 200))
        self.assertIsNone(meet(ADDING, with_powers(p5=1), ONE, 200))

    def test_each_within_so_many(self):
        program = ((1, 7), (1, 11))
        self.assertEqual(meet(program, with_powers(p7=200), with_powers(p11=200), 200), (200, 200, ONE))
        self.assertIsNone(meet(program, with_powers(p7=201), with_powers(p11=200), 200))
        self.assertIsNone(meet(program, with_powers(p7=200), with_powers(p11=201), 200))
        self.assertIsNone(meet(program, with_powers(p7=2), with_powers(p11=2), 1))

    def test_no_steps(self):
        self.assertEqual(meet(ADDING, with_powers(p2=1), with_powers(p2=1), 0), (0, 0, with_powers(p2=1)))
        self.assertIsNone(meet(ADDING, with_powers(p2=1), with_powers(p3=1), 0))

    def test_however_great(self):
        great = leap(((2, 1),), ONE, 10 ** 18)
        later = leap(ADDING, great, 150)
        self.assertEqual(meet(ADDING, great, later, 200), (150, 0, later))
