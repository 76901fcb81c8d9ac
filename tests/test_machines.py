import random
import unittest

from things import TEN, of_every_kind, refused_with, same, told_twice
from wholefract.errors import AtRest, TooMany
from wholefract.machines import is_machine, machine_after, program_of, stand_powers
from wholefract.programs import is_powers, is_program
from wholefract.steps import first_fit, step

# Counter 0 goes into counter 1, one by one.
POURING = (2, (("take", 0, 1, 2), ("add", 1, 0)))
# One more each time, without end.
COUNTING = (1, (("add", 0, 0),))
# Counter 0 is emptied.
EMPTYING = (1, (("take", 0, 0, 1),))


def some_machines(many, most_rows, seed, counters=10):
    chance = random.Random(seed)
    for _ in range(many):
        used = chance.randint(1, counters)
        length = chance.randint(1, most_rows(used))
        yield (used, tuple(some_row(chance, used, length) for _ in range(length)))


def some_row(chance, counters, length):
    counter, onward, other = chance.randrange(counters), chance.randint(0, length), chance.randint(0, length)
    return chance.choice((("add", counter, onward), ("take", counter, onward, other)))


def machines_with_programs(many, seed):
    return some_machines(many, lambda used: (10 - used) // 2, seed, 8)


def some_stands(machine, many, seed):
    chance = random.Random(seed)
    for _ in range(many):
        yield (chance.randint(0, len(machine[1])), tuple(chance.choice((0, 0, 1, 2, 9)) for _ in range(machine[0])))


def stands_by_the_words(machine, stand, many):
    """All stands from this one on, by at most so many steps."""
    row, counters = stand[0], dict(enumerate(stand[1]))
    told = [stand]
    while len(told) <= many and row != len(machine[1]):
        word, counter, *onward = machine[1][row]
        if word == "add":
            counters[counter] += 1
            row = onward[0]
        elif counters[counter] == 0:
            row = onward[1]
        else:
            counters[counter] -= 1
            row = onward[0]
        told.append((row, tuple(counters[number] for number in range(machine[0]))))
    return told


class IsMachine(unittest.TestCase):
    def is_one(self, thing):
        self.assertIs(told_twice(is_machine, thing), True, repr(thing)[:200])

    def is_none(self, thing):
        self.assertIs(told_twice(is_machine, thing), False, repr(thing)[:200])

    def test_ordinary(self):
        for machine in (POURING, COUNTING, EMPTYING):
            self.is_one(machine)
        for machine in some_machines(200, lambda used: 12, 331):
            self.is_one(machine)

    def test_counters(self):
        for many in range(1, 11):
            self.is_one((many, (("add", many - 1, 1),)))
            self.is_one((many, (("take", many - 1, 1, 0),)))
            self.is_one((many, (("add", 0, 1),)))
            for counter in (many, many + 1, -1, -many, 10 ** 59):
                self.is_none((many, (("add", counter, 1),)))
                self.is_none((many, (("take", counter, 1, 0),)))
        for many in (0, 11, 12, -1, -10, 10 ** 59, True, False, None, "1", [1], (1,), {}, [], ()):
            self.is_none((many, (("add", 0, 1),)))
            self.is_none((many, (("add", 0, 0),) * 1000))

    def test_how_many_rows(self):
        for many in (1, 2, 500, 999, 1000):
            for counters in (1, 10):
                self.is_one((counters, (("add", 0, many),) * many))
                self.is_one((counters, (("take", counters - 1, many, 0),) * many))
                self.is_none((counters, (("add", 0, many + 1),) * many))
        for many in (0, 1001, 1002, 2500):
            self.is_none((1, (("add", 0, 0),) * many))
            self.is_none((10, (("take", 0, 0, 0),) * many))

    def test_each_row_counts(self):
        for many in (2, 3, 1000):
            for place in (0, 1, many // 2, many - 1):
                for wrong in (("add", 0, many + 1), ("add", 1, 0), ("put", 0, 0), None, []):
                    rows = [("add", 0, 0)] * many
                    rows[place] = wrong
                    self.is_none((1, tuple(rows)))

    def test_where_rows_lead(self):
        for length in (1, 2, 7, 1000):
            still = (("add", 0, 0),) * (length - 1)
            for number in (0, 1, length - 1, length):
                self.is_one((1, (("add", 0, number),) + still))
                self.is_one((1, (("take", 0, number, 0),) + still))
                self.is_one((1, (("take", 0, 0, number),) + still))
            for number in (length + 1, length + 2, -1, -length, 10 ** 59, -10 ** 59):
                self.is_none((1, (("add", 0, number),) + still))
                self.is_none((1, (("take", 0, number, 0),) + still))
                self.is_none((1, (("take", 0, 0, number),) + still))

    def test_another_word(self):
        for word in ("", "Add", "ADD", "add ", " add", "ad", "adds", "Take", "tak", "end", "rest", None, 0, 1, True,
                     ("add",), ["add"], {"add": 1}, ("take",), ["take"], "\u0430dd"):
            self.is_none((1, ((word, 0, 0),)))
            self.is_none((1, ((word, 0, 0, 0),)))

    def test_longer_and_shorter_rows(self):
        for row in (("add", 0, 0, 0), ("add", 0, 0, 0, 0), ("add", 0), ("add",), (), ("take", 0, 0), ("take", 0),
                    ("take",), ("take", 0, 0, 0, 0), ("add", 0, 0, None), ("take", 0, 0, 0, None), ("add", 0, 0) * 2,
                    ("take", 0, 0, 0) * 2, (0, 0), (0, 0, 0), "add", "take", "abc"):
            self.is_none((1, (row,)))
            self.is_none((1, (("add", 0, 0), row)))
        for thing in ((1,), (1, (("add", 0, 0),), 0), (1, (("add", 0, 0),), ()), ((("add", 0, 0),),), (), ((),),
                      ((("add", 0, 0),), 1), (POURING,), POURING + POURING):
            self.is_none(thing)

    def test_lists_and_the_like(self):
        many, rows = POURING
        for thing in (list(POURING), [many, list(rows)], (many, list(rows)), (many, [list(row) for row in rows]),
                      (many, tuple(list(row) for row in rows)), (many, (rows[0], list(rows[1]))), {many: rows},
                      (many, dict(enumerate(rows))), str(POURING), (many, rows[0]), (many, str(rows)), rows,
                      (many, ({0: "add", 1: 0, 2: 0}, rows[1]))):
            self.is_none(thing)

    def test_truths_for_numbers(self):
        self.is_one((1, (("add", 0, 0), ("take", 0, 1, 1))))
        for thing in ((True, (("add", 0, 0),)), (1, (("add", False, 0),)), (1, (("add", 0, False),)),
                      (1, (("add", 0, True),)), (2, (("take", True, 0, 0),)), (1, (("take", 0, True, 0),)),
                      (1, (("take", 0, 0, True),)), (1, (("take", 0, 0, False),))):
            self.is_none(thing)

    def test_of_anything(self):
        for thing in of_every_kind():
            self.is_none(thing)
            self.is_none((1, thing))
            self.is_none((thing, (("add", 0, 0),)))
            self.is_none((1, (thing,)))
            self.is_none((1, (("add", 0, 0), thing)))
            self.is_none((1, ((thing, 0, 0),)))
            self.is_none((1, ((thing, 0, 0, 0),)))
            if not same(thing, 0):
                self.is_none((1, (("add", thing, 0),)))
                self.is_none((1, (("take", thing, 0, 0),)))
                self.is_none((1, (("add", 0, thing),)))
                self.is_none((1, (("take", 0, thing, 0),)))
                self.is_none((1, (("take", 0, 0, thing),)))


class MachineAfter(unittest.TestCase):
    def comes(self, machine, stand, many, expected):
        told = told_twice(machine_after, machine, stand, many)
        self.assertTrue(same(told, expected), (told, expected))

    def rests(self, machine, stand, many, steps):
        refusal = refused_with(machine_after, machine, stand, many)
        self.assertIs(refusal.__class__, AtRest)
        self.assertIs(refusal.steps.__class__, int)
        self.assertEqual(refusal.steps, steps)

    def test_add(self):
        for counter in range(10):
            values = tuple(range(10))
            more = values[:counter] + (values[counter] + 1,) + values[counter + 1:]
            self.comes((10, (("add", counter, 1),)), (0, values), 1, (1, more))
            self.comes((10, (("add", counter, 0),)), (0, values), 1, (0, more))
            self.comes((10, (("add", counter, 2), ("add", 9, 1))), (0, values), 1, (2, more))

    def test_take(self):
        machine = (10, tuple(("take", counter, 11, 12) for counter in range(10)) + (("add", 0, 0),) * 3)
        for counter in range(10):
            for value in (1, 2, 10 ** 6):
                values = (5,) * counter + (value,) + (5,) * (9 - counter)
                fewer = (5,) * counter + (value - 1,) + (5,) * (9 - counter)
                self.comes(machine, (counter, values), 1, (11, fewer))
            values = (5,) * counter + (0,) + (5,) * (9 - counter)
            self.comes(machine, (counter, values), 1, (12, values))

    def test_rows_that_go_to_themselves(self):
        self.comes(COUNTING, (0, (7,)), 3, (0, (10,)))
        self.comes(EMPTYING, (0, (7,)), 3, (0, (4,)))
        self.comes((1, (("take", 0, 1, 0),)), (0, (0,)), 5000, (0, (0,)))
        self.comes((1, (("take", 0, 0, 0),)), (0, (3,)), 5000, (0, (0,)))

    def test_no_steps(self):
        for machine in (POURING, COUNTING, EMPTYING):
            for row in range(len(machine[1]) + 1):
                for value in (0, 3, 10 ** 6):
                    self.comes(machine, (row, (value,) * machine[0]), 0, (row, (value,) * machine[0]))

    def test_five_thousand_steps(self):
        self.comes(COUNTING, (0, (0,)), 5000, (0, (5000,)))
        self.comes(COUNTING, (0, (10 ** 6,)), 5000, (0, (10 ** 6 + 5000,)))
        self.comes(EMPTYING, (0, (5000,)), 5000, (0, (0,)))
        self.comes(EMPTYING, (0, (4999,)), 5000, (1, (0,)))
        self.rests(EMPTYING, (0, (4998,)), 5000, 4999)
        self.comes(POURING, (0, (2500, 0)), 5000, (0, (0, 2500)))

    def test_a_thousand_rows(self):
        machine = (10, tuple(("add", number % 10, number + 1) for number in range(1000)))
        self.comes(machine, (0, (0,) * 10), 1000, (1000, (100,) * 10))
        self.rests(machine, (0, (0,) * 10), 1001, 1000)
        self.comes(machine, (999, (0,) * 10), 1, (1000, (0,) * 9 + (1,)))

    def test_rests_at_once(self):
        for machine in (POURING, COUNTING, EMPTYING):
            for many in (1, 2, 5000):
                self.rests(machine, (len(machine[1]), (4,) * machine[0]), many, 0)

    def test_rests_behind_some_and_at_the_last(self):
        for value in (0, 1, 2, 50):
            steps = 2 * value + 1
            self.comes(POURING, (0, (value, 3)), steps, (2, (0, value + 3)))
            for more in (1, 2, 1000):
                self.rests(POURING, (0, (value, 3)), steps + more, steps)
            self.comes(POURING, (0, (value, 3)), steps - 1, (0, (0, value + 3)))

    def test_against_the_words(self):
        rested = went = 0
        for machine in some_machines(300, lambda used: 8, 337):
            for stand in some_stands(machine, 3, 347):
                stands = stands_by_the_words(machine, stand, 30)
                for many in (0, 1, 2, 5, 30):
                    if many < len(stands):
                        self.comes(machine, stand, many, stands[many])
                        went += 1
                    else:
                        self.rests(machine, stand, many, len(stands) - 1)
                        rested += 1
        self.assertGreater(min(went, rested), 300)

    def test_first_ones_and_then_others(self):
        for machine in some_machines(60, lambda used: 6, 349):
            for stand in some_stands(machine, 3, 353):
                stands = stands_by_the_words(machine, stand, 12)
                for first in range(len(stands)):
                    self.assertEqual(machine_after(machine, machine_after(machine, stand, first),
                                                   len(stands) - 1 - first), stands[-1])


class ProgramOf(unittest.TestCase):
    def becomes(self, machine, program):
        told = told_twice(program_of, machine)
        self.assertTrue(same(told, program), (told, program))

    def test_one_row(self):
        # 2 is the counter's, 3 and 5 are the row's
        self.becomes((1, (("add", 0, 1),)), ((2, 3), (2, 5)))
        self.becomes((1, (("add", 0, 0),)), ((10, 3), (6, 5)))
        self.becomes((1, (("take", 0, 1, 1),)), ((1, 6), (1, 3), (1, 10), (1, 5)))
        self.becomes((1, (("take", 0, 0, 1),)), ((5, 6), (1, 3), (3, 10), (1, 5)))
        self.becomes((1, (("take", 0, 1, 0),)), ((1, 6), (5, 3), (1, 10), (3, 5)))
        self.becomes((1, (("take", 0, 0, 0),)), ((5, 6), (5, 3), (3, 10), (3, 5)))

    def test_two_rows(self):
        # 2 and 3 are the counters', 5 and 7 the first row's, 11 and 13 the second row's
        self.becomes(POURING, ((13, 10), (1, 5), (11, 14), (1, 7), (21, 11), (15, 13)))
        self.becomes((2, (("add", 1, 1), ("take", 1, 0, 2))), ((39, 5), (33, 7), (7, 33), (1, 11), (5, 39), (1, 13)))
        self.becomes((2, (("add", 0, 2), ("add", 1, 2))), ((2, 5), (2, 7), (3, 11), (3, 13)))

    def test_ten_together(self):
        # 2, 3, 5 and 7 are the counters'; 11 and 13, 17 and 19, 23 and 29 are the rows'
        self.becomes((4, (("take", 3, 2, 1), ("add", 2, 0), ("take", 1, 3, 2))),
                     ((29, 77), (19, 11), (23, 91), (17, 13), (65, 17), (55, 19), (1, 69), (29, 23), (1, 87), (23, 29)))
        self.becomes((8, (("add", 7, 0),)), ((19 * 29, 23), (19 * 23, 29)))
        self.becomes((8, (("take", 7, 1, 0),)), ((1, 19 * 23), (29, 23), (1, 19 * 29), (23, 29)))

    def test_sixteen_fractions(self):
        told = program_of((1, (("take", 0, 1, 4), ("take", 0, 2, 4), ("take", 0, 3, 4), ("take", 0, 0, 4))))
        self.assertEqual(len(told), 16)
        self.assertIs(is_program(told), True)

    def test_by_the_words(self):
        for machine in machines_with_programs(200, 359):
            many, rows = machine
            first = [TEN[many + 2 * number] for number in range(len(rows))] + [1]
            second = [TEN[many + 2 * number + 1] for number in range(len(rows))] + [1]
            expected = []
            for number, row in enumerate(rows):
                counter = TEN[row[1]]
                for own, others in ((first, second), (second, first)):
                    if row[0] == "add":
                        expected.append((counter * others[row[2]], own[number]))
                    else:
                        expected.append((others[row[2]], own[number] * counter))
                        expected.append((others[row[3]], own[number]))
            self.becomes(machine, tuple(expected))
            self.assertIs(is_program(tuple(expected)), True)

    def test_just_ten_and_just_eleven(self):
        for many in range(1, 11):
            for length in (1, 2, 3, 4, 5, 6, 1000):
                for row in (("add", many - 1, length), ("take", 0, 0, length)):
                    machine = (many, (row,) * length)
                    if many + 2 * length <= 10:
                        self.assertIs(is_program(told_twice(program_of, machine)), True)
                    else:
                        self.assertIs(refused_with(program_of, machine).__class__, TooMany)


class StandPowers(unittest.TestCase):
    def test_at_rows_and_at_the_end(self):
        for row, second, powers in ((0, False, (7, 9, 1) + (0,) * 7), (0, True, (7, 9, 0, 1) + (0,) * 6),
                                    (1, False, (7, 9, 0, 0, 1) + (0,) * 5), (1, True, (7, 9, 0, 0, 0, 1) + (0,) * 4),
                                    (2, False, (7, 9) + (0,) * 8), (2, True, (7, 9) + (0,) * 8)):
            self.assertTrue(same(told_twice(stand_powers, POURING, (row, (7, 9)), second), powers))
        machine = (8, (("add", 0, 1),))
        for second, powers in ((False, tuple(range(8)) + (1, 0)), (True, tuple(range(8)) + (0, 1))):
            self.assertTrue(same(stand_powers(machine, (0, tuple(range(8))), second), powers))
            self.assertTrue(same(stand_powers(machine, (1, tuple(range(8))), second), tuple(range(8)) + (0, 0)))

    def test_by_the_words(self):
        for machine in machines_with_programs(200, 367):
            for row, values in some_stands(machine, 4, 373):
                for second in (False, True):
                    expected = dict(enumerate(values))
                    if row < len(machine[1]):
                        expected[machine[0] + 2 * row + int(second)] = 1
                    told = told_twice(stand_powers, machine, (row, values), second)
                    self.assertIs(is_powers(told), True)
                    self.assertEqual(told, tuple(expected.get(place, 0) for place in range(10)))

    def test_a_step_is_a_step_by_the_other_truth(self):
        rested = went = 0
        for machine in machines_with_programs(250, 379):
            program = program_of(machine)
            for stand in some_stands(machine, 6, 383):
                for second in (False, True):
                    powers = stand_powers(machine, stand, second)
                    if stand[0] == len(machine[1]):
                        self.assertIsNone(first_fit(program, powers))
                        rested += 1
                    else:
                        onward = machine_after(machine, stand, 1)
                        self.assertEqual(step(program, powers), stand_powers(machine, onward, not second))
                        went += 1
        self.assertGreater(min(rested, went), 200)

    def test_stand_by_stand(self):
        for machine in machines_with_programs(80, 389):
            program = program_of(machine)
            for stand in some_stands(machine, 2, 397):
                stands = stands_by_the_words(machine, stand, 40)
                second, powers = False, stand_powers(machine, stand, False)
                for onward in stands[1:]:
                    second, powers = not second, step(program, powers)
                    self.assertEqual(powers, stand_powers(machine, onward, second))
                self.assertEqual(first_fit(program, powers) is None, stands[-1][0] == len(machine[1]))

    def test_great_values(self):
        for value in (10 ** 6, 10 ** 59):
            powers = stand_powers(POURING, (0, (value, 0)), False)
            self.assertEqual(powers, (value, 0, 1) + (0,) * 7)
            self.assertEqual(step(program_of(POURING), powers), stand_powers(POURING, (1, (value - 1, 0)), True))
