import unittest

from things import (ADDING, ALL_GO, EXCHANGING, MULTIPLYING, ONE, PRIME_TELLING, SIXTEEN, TEN, changes_of, factored,
                    refused_with, same, small_powers, small_programs, some_programs, told_twice)
from wholefract.errors import TooMany
from wholefract.machines import is_machine, machine_after
from wholefract.steps import after
from wholefract.turned import machine_of

NOTHING_MUCH = (((1, 1),), ((1, 1),) * 16, ((1, 1), (3, 2)), ((3, 2), (1, 1)), ((1, 2), (1, 1), (2, 1)),
                ((2, 1),), ((6, 1),), ((2, 1), (1, 2)), ((3, 2), (5, 1), (1, 1)), ((1, 2),), ((1, 6),), ((1, 4),),
                ((1, 2), (1, 3), (1, 1)), ((3, 2),) * 16, ((3, 2), (3, 2), (2, 3)), ((1, 30), (1, 2), (7, 15)))
# Just 300 prime factors, in tops and bottoms, in bottoms alone, in tops alone, in as many fractions as there may be.
JUST_ENOUGH = (((2 ** 39, 3 ** 25),) * 4 + ((2 ** 39, 3 ** 5),), ((1, 3 ** 25),) * 12,
               ((1, 2 ** 39),) * 7 + ((1, 2 ** 27),), ((2 ** 39, 1),) * 7 + ((2 ** 27, 1),),
               ((2 ** 10, 3 ** 9),) * 15 + ((2 ** 5, 3 ** 10),), ((1, 2 ** 19),) * 15 + ((5 ** 7, 3 ** 8),),
               ((1, 1),) * 8 + ((1, 2 ** 38),) * 7 + ((2 ** 30, 3 ** 4),))


def factors_in(program):
    return sum(sum(factored(top)) + sum(factored(bottom)) for top, bottom in program)


def next_by_the_words(program, powers):
    for (_, bottom), change in zip(program, changes_of(program)):
        if all(wanted <= power for wanted, power in zip(factored(bottom), powers)):
            return tuple(power + more for power, more in zip(powers, change))
    return None


def near_the_bottoms(program):
    """Powers that just fit each bottom, and such that just lack one prime of it, by themselves and with all others."""
    for _, bottom in program:
        just = factored(bottom)
        yield just
        yield tuple(power + 1 for power in just)
        for place in range(10):
            if just[place] > 0:
                lacking = just[:place] + (just[place] - 1,) + just[place + 1:]
                yield lacking
                yield tuple(power if here == place else power + 40 for here, power in enumerate(lacking))


class MachineOf(unittest.TestCase):
    def goes(self, machine, program, powers):
        """Goes row by row till row 0 or the end, and looks at what has come."""
        rows, row, values, steps = machine[1], 0, list(powers), 0
        while steps == 0 or row not in (0, len(rows)):
            word, counter, *onward = rows[row]
            lacks = word == "take" and values[counter] == 0
            row = onward[-1] if lacks else onward[0]
            if not lacks:
                values[counter] += 1 if word == "add" else -1
            steps += 1
            self.assertLessEqual(steps, 1000)
        expected = next_by_the_words(program, powers)
        if expected is None:
            self.assertEqual((row, tuple(values)), (len(rows), powers))
        else:
            self.assertEqual((row, tuple(values)), (0, expected))
        return steps, expected

    def turned(self, program):
        machine = told_twice(machine_of, program)
        self.assertIs(is_machine(machine), True)
        self.assertEqual(machine[0], 10)
        self.assertLessEqual(len(machine[1]), 1000)
        return machine

    def test_steps_of_programs_of_all_kinds(self):
        fitting = resting = 0
        of_all_lengths = [SIXTEEN[:many] for many in range(1, 17)]
        for program in list(some_programs()) + list(NOTHING_MUCH) + list(small_programs(100, 2, 401)) + of_all_lengths:
            machine = self.turned(program)
            for powers in list(small_powers(12, 10, 3, 409)) + list(near_the_bottoms(program)) + [ONE, (99,) * 10]:
                expected = self.goes(machine, program, powers)[1]
                fitting, resting = fitting + (expected is not None), resting + (expected is None)
        self.assertGreater(min(fitting, resting), 1000)

    def test_by_machine_after(self):
        for program in (ADDING, MULTIPLYING, PRIME_TELLING, EXCHANGING, SIXTEEN, ALL_GO) + NOTHING_MUCH:
            machine = self.turned(program)
            for powers in list(small_powers(6, 10, 2, 419)) + [ONE]:
                steps, expected = self.goes(machine, program, powers)
                stand = told_twice(machine_after, machine, (0, powers), steps)
                end = (len(machine[1]), powers) if expected is None else (0, expected)
                self.assertTrue(same(stand, end))
                for many in range(1, steps):
                    self.assertNotIn(machine_after(machine, (0, powers), many)[0], (0, len(machine[1])))

    def test_many_steps(self):
        for program, powers, many in ((MULTIPLYING, (2, 3) + (0,) * 8, 25), (PRIME_TELLING, (1,) + (0,) * 9, 60),
                                      (ADDING, (30,) + (0,) * 9, 30)):
            machine, reached = self.turned(program), powers
            for done in range(1, many + 1):
                stand = machine_after(machine, (0, reached), self.goes(machine, program, reached)[0])
                self.assertEqual(stand, (0, after(program, powers, done)))
                reached = stand[1]

    def test_great_powers(self):
        for program in (ADDING, MULTIPLYING, SIXTEEN, ALL_GO):
            for powers in ((10 ** 6,) * 10, (0,) + (10 ** 6,) * 9, (10 ** 59,) * 10, (10 ** 6,) * 9 + (0,)):
                self.goes(self.turned(program), program, powers)

    def test_a_fraction_that_changes_nothing(self):
        for program in (((1, 1),), ((1, 1), (3, 2)), ((1, 1),) * 16):
            for powers in (ONE, (1,) * 10, (5, 0) * 5):
                steps, expected = self.goes(self.turned(program), program, powers)
                self.assertEqual(expected, powers)
                self.assertGreater(steps, 0)

    def test_just_three_hundred_factors(self):
        for program in JUST_ENOUGH:
            self.assertEqual(factors_in(program), 300)
            for order in (program, program[::-1]):
                machine = self.turned(order)
                for powers in list(near_the_bottoms(program)) + list(small_powers(5, 10, 30, 421)) + [ONE, (99,) * 10]:
                    self.goes(machine, order, powers)

    def test_one_more_is_too_many(self):
        refused = 0
        for program in JUST_ENOUGH:
            for place, (top, bottom) in enumerate(program):
                for more in ((top * 29, bottom), (top, bottom * 29)):
                    if max(more) <= 10 ** 12:
                        greater = program[:place] + (more,) + program[place + 1:]
                        self.assertEqual(factors_in(greater), 301)
                        self.assertIs(refused_with(machine_of, greater).__class__, TooMany)
                        refused += 1
        self.assertGreater(refused, 50)

    def test_far_too_many(self):
        for program in (((2 ** 39, 3 ** 25),) * 16, ((1, 2 ** 39),) * 8, ((2 ** 39, 1),) * 8,
                        ((1, 1),) * 7 + ((2 ** 39, 3 ** 25),) * 5):
            self.assertGreater(factors_in(program), 300)
            self.assertIs(refused_with(machine_of, program).__class__, TooMany)

    def test_each_prime_has_its_counter(self):
        for place, prime in enumerate(TEN):
            for program in (((prime, 1),), ((1, prime),), ((1, prime ** 3),), ((prime ** 3, 1),)):
                for powers in (ONE, (1,) * 10, (3,) * 10, tuple(range(10)), (7,) * place + (2,) + (7,) * (9 - place)):
                    self.goes(self.turned(program), program, powers)
