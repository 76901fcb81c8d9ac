import unittest

from things import (ADDING, MULTIPLYING, ONE, PRIME_TELLING, factored, of_every_kind, refusal_of, same, small_powers,
                    small_programs, told_twice, walk, with_powers)
from wholefract.errors import NoTrail
from wholefract.fates import fate
from wholefract.loops import added_by, far_on, first_loop
from wholefract.steps import after, first_fit, leap, step

# Up to 2^39 one by one, then back to 1 at once: a round of forty steps.
FORTY = ((1, 2 ** 39), (2, 1))
# The same with a three in between: a round of forty-one.
FORTY_ONE = ((1, 3), (3, 2 ** 39), (2, 1))
# 5 becomes 7 and a two, 7 becomes 5 and a three.
ADDING_BOTH = ((14, 5), (15, 7))
# The first fraction wants eight twos, which the second one makes.
BROKEN_LATER = ((7, 2 ** 8 * 5), (2, 1))
# From 1 only the third fraction fits, time after time.
THIRD_LOOPS = ((3, 2), (7, 11), (5, 1))


def powers_plus(powers, added, many):
    return tuple(power + many * more for power, more in zip(powers, added))


def added_by_the_words(program, powers, numbers):
    reached, used = walk(program, powers, len(numbers))
    if tuple(used) != numbers:
        return None
    added = powers_plus(reached[-1], reached[0], -1)
    if min(added) < 0:
        return None
    for there, number in zip(reached, numbers):
        for _, bottom in program[:number]:
            if not any(wanted > power and more == 0 for wanted, power, more in zip(factored(bottom), there, added)):
                return None
    return added


def first_by_the_words(program, powers, most):
    """All begins and lengths tried in their order."""
    reached, used = walk(program, powers, most)
    for steps in range(most):
        for length in range(1, min(40, most - steps) + 1):
            numbers = tuple(used[steps:steps + length])
            if len(numbers) == length:
                added = added_by_the_words(program, reached[steps], numbers)
                if added is not None:
                    return (steps, numbers, added)
    return None


def some_loops():
    """Programs, powers and trails that loop from them, of all lengths up to forty."""
    for program, powers in zip(small_programs(250, 3, 241), small_powers(250, 3, 6, 251)):
        found = first_loop(program, powers, 30)
        if found is not None:
            yield program, after(program, powers, found[0]), found[1]
    yield ((2, 1),), ONE, (0,) * 40
    yield ((1, 1),), (9,) * 10, (0,)
    yield FORTY, ONE, (1,) * 39 + (0,)
    yield ADDING_BOTH, with_powers(p5=1), (0, 1)
    yield ADDING_BOTH, with_powers(p5=1, p2=30), (0, 1) * 20
    yield ((3, 2), (5, 1)), with_powers(p7=3), (1,) * 7


class AddedBy(unittest.TestCase):
    def adds(self, program, powers, numbers, added):
        told = told_twice(added_by, program, powers, numbers)
        self.assertTrue(same(told, added), (told, added))

    def adds_none(self, program, powers, thing):
        self.assertIsNone(told_twice(added_by, program, powers, thing), repr(thing)[:200])

    def test_at_once(self):
        self.adds(((2, 1),), ONE, (0,), with_powers(p2=1))
        self.adds(((12, 1),), with_powers(p5=9), (0,), with_powers(p2=2, p3=1))
        self.adds(((4, 3), (3, 2)), with_powers(p2=1), (1, 0), with_powers(p2=1))
        self.adds(ADDING_BOTH, with_powers(p5=1), (0, 1), with_powers(p2=1, p3=1))
        self.adds(ADDING_BOTH, with_powers(p7=1), (1, 0), with_powers(p2=1, p3=1))
        self.adds(((3, 2), (5, 1)), ONE, (1,), with_powers(p5=1))

    def test_that_add_nothing(self):
        for powers in (ONE, with_powers(p29=10 ** 6)):
            self.adds(((1, 1),), powers, (0,), ONE)
            self.adds(((1, 1),), powers, (0,) * 40, ONE)
            self.adds(FORTY, powers, (1,) * 39 + (0,), ONE)
        self.adds(((3, 2), (2, 3)), with_powers(p2=1), (0, 1), ONE)
        self.adds(((3, 2), (5, 3), (2, 5)), with_powers(p5=1), (2, 0, 1), ONE)

    def test_gone_twice(self):
        for program, powers, numbers in some_loops():
            added = added_by(program, powers, numbers)
            for times in range(1, 40 // len(numbers) + 1):
                self.adds(program, powers, numbers * times, tuple(times * more for more in added))
            self.adds(program, powers_plus(powers, added, 1), numbers, added)
            self.adds(program, powers_plus(powers, added, 10 ** 17), numbers, added)

    def test_another_fraction_is_the_first(self):
        self.adds_none(((2, 1),), ONE, (1,))
        self.adds_none(((2, 1), (3, 1)), ONE, (1,))
        self.adds_none(((2, 1), (3, 1)), ONE, (0, 1))
        self.adds_none(ADDING_BOTH, with_powers(p5=1), (1, 0))
        self.adds_none(ADDING_BOTH, with_powers(p5=1), (0, 0))
        self.adds_none(ADDING_BOTH, with_powers(p5=1), (0,))
        self.adds_none(ADDING_BOTH, with_powers(p5=1), (0, 1, 0))
        self.adds_none(((3, 2), (5, 1)), with_powers(p2=1), (1,))
        self.adds_none(((3, 2), (5, 1)), with_powers(p2=1), (0, 1))

    def test_powers_that_rest(self):
        self.adds_none(ADDING, ONE, (0,))
        self.adds_none(ADDING, with_powers(p2=2), (0, 0, 0))
        self.adds_none(MULTIPLYING, with_powers(p5=12), (0,))

    def test_a_prime_grows_less(self):
        self.adds_none(ADDING, with_powers(p2=9), (0,))
        self.adds_none(((9, 2), (1, 1)), with_powers(p2=10 ** 6), (0,) * 40)
        self.adds_none(((14, 5), (15, 77)), with_powers(p5=1, p11=40), (0, 1))
        self.adds_none(((2 ** 39, 29),), with_powers(p29=1), (0,))

    def test_broken_off_the_first_time(self):
        # At the second place eight twos are there, so the first fraction fits.
        self.adds_none(BROKEN_LATER, with_powers(p2=7, p5=1), (1, 1))
        self.adds_none(BROKEN_LATER, with_powers(p2=7, p5=1), (1, 0))

    def test_broken_off_only_later(self):
        for twos in range(8):
            self.adds_none(BROKEN_LATER, with_powers(p2=twos, p5=1), (1,))
            self.adds_none(BROKEN_LATER, with_powers(p2=twos, p5=1), (1,) * (8 - twos))
        # Without a five it is never broken off, since fives are not added.
        for twos in (0, 7, 8, 9, 10 ** 6):
            self.adds(BROKEN_LATER, with_powers(p2=twos), (1,), with_powers(p2=1))
        # Here the trail adds all that the fraction ahead wants.
        self.adds_none(((7, 6 ** 5), (6, 1)), ONE, (1,))
        self.adds(((7, 6 ** 5), (2, 1)), ONE, (1,), with_powers(p2=1))

    def test_wants_more_at_each_place_of_what_stays(self):
        # One five at the one place and none at the other; two are wanted, and fives are as many behind the trail.
        program = ((3, 5 ** 2 * 11), (34, 5), (5, 17))
        self.adds(program, with_powers(p5=1, p11=1), (1, 2), with_powers(p2=1))
        self.adds(program, with_powers(p17=1, p11=1), (2, 1), with_powers(p2=1))
        self.adds_none(((3, 2 ** 9 * 5),) + program, with_powers(p5=1, p11=1), (2, 3))
        self.adds(((3, 2 ** 9 * 25),) + program, with_powers(p5=1, p11=1), (2, 3), with_powers(p2=1))

    def test_just_as_much_as_is_wanted(self):
        # The fraction ahead wants five threes: with four it is shut, with five it fits.
        program = ((1, 3 ** 5), (2, 1))
        for threes in range(5):
            self.adds(program, with_powers(p3=threes), (1,), with_powers(p2=1))
        self.adds_none(program, with_powers(p3=5), (1,))

    def test_forty_and_forty_one_and_none(self):
        for program in (((2, 1),), ((1, 1),)):
            for many in (1, 2, 39, 40):
                self.adds(program, ONE, (0,) * many, tuple(many * more for more in factored(program[0][0])))
            for many in (0, 41, 42, 80, 9999):
                self.adds_none(program, ONE, (0,) * many)
        numbers = (2,) * 39 + (1, 0)
        self.assertEqual(walk(FORTY_ONE, ONE, 41), (walk(FORTY_ONE, ONE, 41)[0], list(numbers)))
        self.adds_none(FORTY_ONE, ONE, numbers)

    def test_numbers_of_no_fraction(self):
        for number in (1, 2, 15, 16, -1, -2, 10 ** 59, -10 ** 59):
            self.adds_none(((2, 1),), ONE, (number,))
            self.adds_none(((2, 1),), ONE, (0, number))
            self.adds_none(((1, 1),), ONE, (number, 0))
        self.adds(((2, 1),) * 16, ONE, (0,), with_powers(p2=1))
        self.adds(((1, 3),) * 15 + ((2, 1),), ONE, (15,), with_powers(p2=1))
        self.adds_none(((1, 3),) * 15 + ((2, 1),), ONE, (-1,))

    def test_truths(self):
        self.adds_none(((2, 1),), ONE, (False,))
        self.adds_none(((3, 2), (5, 1)), ONE, (True,))
        self.adds_none(ADDING_BOTH, with_powers(p5=1), (0, True))
        self.adds_none(ADDING_BOTH, with_powers(p5=1), (False, 1))

    def test_of_anything(self):
        for program in (THIRD_LOOPS, FORTY, FORTY_ONE):
            for thing in of_every_kind():
                self.adds_none(program, ONE, thing)
                self.adds_none(program, ONE, (thing,))
                self.adds_none(program, ONE, (2, thing, 2))
        self.adds(THIRD_LOOPS, ONE, (2,), with_powers(p5=1))
        for thing in ([2], {0: 2}, {2: 2}, "2", ((2,),), [(2,)], (None,), ("2",), ([2],), ({},), 2, (2, None),
                      (2, "2")):
            self.adds_none(THIRD_LOOPS, ONE, thing)

    def test_against_the_words(self):
        looping = others = 0
        for program, powers in zip(small_programs(400, 3, 257), small_powers(400, 3, 5, 263)):
            used = tuple(walk(program, powers, 12)[1])
            for length in range(1, len(used) + 1):
                expected = added_by_the_words(program, powers, used[:length])
                self.assertTrue(same(told_twice(added_by, program, powers, used[:length]), expected))
                looping, others = looping + (expected is not None), others + (expected is None)
                for place in range(length):
                    wrong = used[:place] + ((used[place] + 1) % (len(program) + 1),) + used[place + 1:length]
                    self.adds_none(program, powers, wrong)
        self.assertGreater(min(looping, others), 300)


class FarOn(unittest.TestCase):
    def test_against_steps_one_by_one(self):
        lengths = set()
        for program, powers, numbers in some_loops():
            lengths.add(len(numbers))
            reached = walk(program, powers, 3 * len(numbers) + 2)[0]
            for steps, expected in enumerate(reached):
                told = told_twice(far_on, program, powers, numbers, steps)
                self.assertTrue(same(told, expected))
                self.assertEqual(told, after(program, powers, steps))
        self.assertGreater(len(lengths), 5)

    def test_no_steps(self):
        for program, powers, numbers in some_loops():
            self.assertEqual(far_on(program, powers, numbers, 0), powers)

    def test_whole_times_and_between(self):
        for program, powers, numbers in some_loops():
            added, length = added_by(program, powers, numbers), len(numbers)
            for times in (1, 2, 7, 10 ** 9, 10 ** 18 // length):
                told = told_twice(far_on, program, powers, numbers, times * length)
                self.assertTrue(same(told, powers_plus(powers, added, times)))
                for more in range(1, length):
                    if times * length + more <= 10 ** 18:
                        between = far_on(program, powers, numbers, times * length + more)
                        self.assertEqual(between, after(program, told, more))
                        self.assertEqual(between, step(program, far_on(program, powers, numbers,
                                                                       times * length + more - 1)))

    def test_against_a_leap(self):
        far = 10 ** 18
        for program, powers, many in ((((2, 1),), ONE, 1), (((12, 1),), with_powers(p7=3), 7), (((1, 1),), ONE, 3),
                                      (((3, 2), (5, 1)), ONE, 40), (((1, 5), (3, 2), (7, 1)), with_powers(p11=1), 11),
                                      (BROKEN_LATER, with_powers(p2=10 ** 6), 13)):
            number = first_fit(program, powers)
            for steps in (0, 1, 12, 10 ** 9 + 7, far - 1, far):
                told = told_twice(far_on, program, powers, (number,) * many, steps)
                self.assertTrue(same(told, leap(program, powers, steps)))

    def test_first_ones_and_then_others(self):
        for program, powers, numbers in some_loops():
            for times in (1, 5, 10 ** 17 // len(numbers)):
                first = far_on(program, powers, numbers, times * len(numbers))
                for more in (0, 1, len(numbers), 10 ** 16 + 1):
                    self.assertEqual(far_on(program, first, numbers, more),
                                     far_on(program, powers, numbers, times * len(numbers) + more))

    def test_refused(self):
        refused = 0
        for program, powers in zip(small_programs(200, 3, 269), small_powers(200, 3, 5, 271)):
            used = tuple(walk(program, powers, 8)[1])
            self.assertIs(refusal_of(far_on, program, powers, (), 1), NoTrail)
            for length in range(1, len(used) + 1):
                expected = NoTrail if added_by_the_words(program, powers, used[:length]) is None else None
                for steps in (0, 1, 10 ** 18):
                    self.assertIs(refusal_of(far_on, program, powers, used[:length], steps), expected)
                refused += expected is NoTrail
        self.assertGreater(refused, 100)

    def test_what_is_no_such_trail(self):
        for steps in (0, 1, 5, 10 ** 18):
            for thing in of_every_kind() + [(2,) * 41, (0,), (1,), (3,), (-1,), [2], (2, None), (2, True), ((2,),)]:
                self.assertIs(refusal_of(far_on, THIRD_LOOPS, ONE, thing, steps), NoTrail, repr(thing)[:200])
            for thing in ((False,), (True,), (0, False), (0,) * 41, ()):
                self.assertIs(refusal_of(far_on, ((2, 1),), ONE, thing, steps), NoTrail, repr(thing)[:200])
            self.assertIs(refusal_of(far_on, ADDING, with_powers(p2=9), (0,), steps), NoTrail)
            self.assertIs(refusal_of(far_on, ADDING, ONE, (0,), steps), NoTrail)
            self.assertIs(refusal_of(far_on, BROKEN_LATER, with_powers(p5=1), (1,), steps), NoTrail)
            self.assertIs(refusal_of(far_on, FORTY_ONE, ONE, (2,) * 39 + (1, 0), steps), NoTrail)
            self.assertIsNone(refusal_of(far_on, ((2, 1),), ONE, (0,) * 40, steps))


class FirstLoop(unittest.TestCase):
    def test_against_all_begins_and_lengths(self):
        found = missed = later = longer = 0
        for program, powers in zip(small_programs(250, 3, 277), small_powers(250, 3, 6, 281)):
            for most in (1, 2, 3, 5, 9, 20):
                told = told_twice(first_loop, program, powers, most)
                self.assertTrue(same(told, first_by_the_words(program, powers, most)), (program, powers, most, told))
                if told is None:
                    missed += 1
                else:
                    found, later, longer = found + 1, later + (told[0] > 0), longer + (len(told[1]) > 1)
        self.assertGreater(min(found, missed, later, longer), 30)

    def test_eighty_steps_against_all_begins_and_lengths(self):
        for program, powers in zip(small_programs(25, 2, 283), small_powers(25, 2, 20, 293)):
            self.assertEqual(first_loop(program, powers, 80), first_by_the_words(program, powers, 80))
        for program, powers in ((PRIME_TELLING, with_powers(p2=1)), (MULTIPLYING, with_powers(p2=2, p3=2))):
            self.assertEqual(told_twice(first_loop, program, powers, 80), first_by_the_words(program, powers, 80))

    def test_what_is_told_loops(self):
        for program, powers in zip(small_programs(150, 4, 307), small_powers(150, 4, 8, 311)):
            told = first_loop(program, powers, 80)
            if told is not None:
                steps, numbers, added = told
                there = after(program, powers, steps)
                self.assertEqual(added_by(program, there, numbers), added)
                self.assertEqual(far_on(program, there, numbers, 300), after(program, powers, steps + 300))

    def test_at_once(self):
        for most in (1, 2, 80):
            self.assertEqual(told_twice(first_loop, ((2, 1),), ONE, most), (0, (0,), with_powers(p2=1)))
            self.assertEqual(first_loop(((1, 1),), ONE, most), (0, (0,), ONE))
            self.assertEqual(first_loop(((3, 2), (5, 1)), ONE, most), (0, (1,), with_powers(p5=1)))

    def test_the_least_steps_that_are_enough(self):
        for begin, program, powers, numbers, added in (
                (0, ADDING_BOTH, with_powers(p5=1), (0, 1), with_powers(p2=1, p3=1)),
                (0, FORTY, ONE, (1,) * 39 + (0,), ONE),
                (0, ((3, 2), (2, 3)), with_powers(p2=1), (0, 1), ONE),
                (5, ((3, 2), (7, 1)), with_powers(p2=5), (1,), with_powers(p7=1)),
                (79, ((3, 2), (7, 1)), with_powers(p2=79), (1,), with_powers(p7=1)),
                (40, ((1, 29),) + FORTY, with_powers(p29=40), (2,) * 39 + (1,), ONE)):
            enough = begin + len(numbers)
            for most in (enough, min(enough + 1, 80), 80):
                told = told_twice(first_loop, program, powers, most)
                self.assertTrue(same(told, (begin, numbers, added)), (program, told))
            if enough > 1:
                self.assertIsNone(told_twice(first_loop, program, powers, enough - 1))

    def test_a_little_too_far(self):
        self.assertIsNone(first_loop(((3, 2), (7, 1)), with_powers(p2=80), 80))
        self.assertIsNone(first_loop(((1, 29),) + FORTY, with_powers(p29=41), 80))
        # A round of forty-one is longer than any trail.
        self.assertEqual(fate(FORTY_ONE, ONE, 80), ("round", 0, 41))
        self.assertIsNone(told_twice(first_loop, FORTY_ONE, ONE, 80))

    def test_where_powers_stop(self):
        for most in (1, 2, 46, 80):
            self.assertIsNone(told_twice(first_loop, ADDING, ONE, most))
            self.assertIsNone(first_loop(ADDING, with_powers(p2=1), most))
            self.assertIsNone(first_loop(ADDING, with_powers(p2=10 ** 6), most))
            self.assertIsNone(first_loop(MULTIPLYING, with_powers(p2=3, p3=4), most))

    def test_from_each_of_the_powers_of_a_round(self):
        program = ((3, 2), (5, 3), (7, 5), (2, 7))
        self.assertEqual(first_loop(program, with_powers(p3=1), 80), (0, (1, 2, 3, 0), ONE))
        program = ((1, 2 ** 3), (2, 1))
        self.assertEqual(first_loop(program, ONE, 80), (0, (1, 1, 1, 0), ONE))
        self.assertEqual(first_loop(program, with_powers(p2=2), 80), (0, (1, 0, 1, 1), ONE))

    def test_a_round_is_a_loop(self):
        rounds = 0
        for program, powers in zip(small_programs(300, 3, 313), small_powers(300, 3, 5, 317)):
            told = fate(program, powers, 40)
            if told[0] == "round":
                rounds += 1
                loop = first_loop(program, powers, 40)
                self.assertLessEqual(loop[0], told[1])
            if told[0] == "rests":
                self.assertIsNone(first_loop(program, powers, 80))
        self.assertGreater(rounds, 20)
