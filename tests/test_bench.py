import copy
import random
import unittest

from things import (ADDING, ALL_GO, MULTIPLYING, ONE, PRIME_TELLING, SIXTEEN, box, of_every_kind, refusal_of,
                    refused_once, refused_with, same, small_powers, small_programs, some_programs, told_twice, walk,
                    with_powers)
from wholefract.bench import Bench
from wholefract.errors import AtRest, NoDeed, NoName, NoPowers, NoProgram, TooMany
from wholefract.steps import after, leap

TWELVE = ["a", "ab", "abcdefgh", "b", "ba", "m", "mm", "q", "y", "z", "za", "zzzzzzzz"]
# A two becomes a three and back, so each stretch but the first one is of one step.
TO_AND_FRO = ((3, 2), (2, 3))
MILLION = 10 ** 6
MOST = 10 ** 18


def no_names():
    """What is no name, of every kind."""
    yield from (thing for thing in of_every_kind() if thing != "a")
    yield from ("abcdefghi", "a" * 9, "a" * 2000, "A", "Z", "aB", "abcdefgH", "a1", "1", "0", "a b", " a", "a ", " ",
                "a\n", "\n", "\ta", "a\t", "a_", "_", "a-b", "a.", "^", "*", "a/b", "`", "{", "@", "[", "\u00e4",
                "a\u00e9", "\u00df", "\u0430", "\u03b1", "\u00aa", "\uff41", "\u0131", "\u05d0", "\U0001d41a", "\0",
                ["a"], ("a",), {"a": 1}, [["a"]], ("a", "b"), 97)


def no_powers():
    """What is no powers to be put, of every kind."""
    yield from of_every_kind()
    for place in range(10):
        for wrong in (-1, -MILLION, MILLION + 1, MILLION + 2, 10 ** 59, -10 ** 59, True, False, None, "0", "", [0],
                      (0,), {}, []):
            yield (0,) * place + (wrong,) + (0,) * (9 - place)
    yield from (list(ONE), ONE[:9], ONE + (0,), (MILLION + 1,) * 10, ONE * 2, (ONE,), [ONE], {ONE: ONE}, "2^1", "1",
                str(ONE), dict(enumerate(ONE)), tuple(map(str, ONE)))


def held(bench):
    """All that a bench tells, asked twice."""
    names = told_twice(bench.names)
    return {name: (told_twice(bench.powers, name), told_twice(bench.gone, name)) for name in names}


def filled(program, powers):
    bench = Bench(program)
    for name in TWELVE:
        bench.put(name, powers)
    return bench


class Made(unittest.TestCase):
    def test_of_a_program(self):
        for program in list(some_programs()) + [((1, 1),), SIXTEEN]:
            bench = Bench(program)
            self.assertEqual(told_twice(bench.names), [])
            self.assertIs(refusal_of(bench.undo), NoDeed)

    def test_of_what_is_none(self):
        things = of_every_kind() + [
            [(3, 2)], [[3, 2]], ([3, 2],), (3, 2), ((3, 2, 1),), ((3,),), ((6, 4),), ((2, 2),), ((3, 0),), ((0, 2),),
            ((-3, 2),), ((3, -2),), ((31, 2),), ((10 ** 12 + 1, 1),), ((2 ** 40, 1),), ((1, 2 ** 40),), ((3, 2),) * 17,
            ((True, 2),), ((3, True),), ((3, 2), None), (("3", 2),), "3/2", {(3, 2): 1}, ((3, 2), [3, 2]),
            ADDING + (1,)]
        for thing in things:
            self.assertIs(refusal_of(Bench, thing), NoProgram, repr(thing)[:200])

    def test_class_and_methods_stand_alone(self):
        bench = Bench(ADDING)
        self.assertIs(bench.__class__, Bench)
        self.assertEqual(Bench.__bases__, (object,))


class Put(unittest.TestCase):
    def test_ordinary(self):
        bench = Bench(MULTIPLYING)
        self.assertIsNone(bench.put("a", with_powers(p2=3, p3=4)))
        self.assertEqual(held(bench), {"a": (with_powers(p2=3, p3=4), 0)})
        bench.put("b", ONE)
        self.assertEqual(held(bench), {"a": (with_powers(p2=3, p3=4), 0), "b": (ONE, 0)})

    def test_in_the_place_of_what_stood_there(self):
        bench = Bench(ADDING)
        bench.put("a", with_powers(p2=9))
        bench.run("a", 4)
        bench.put("a", with_powers(p2=2))
        self.assertEqual(held(bench), {"a": (with_powers(p2=2), 0)})
        bench.put("a", with_powers(p2=2))
        self.assertEqual(held(bench), {"a": (with_powers(p2=2), 0)})

    def test_names(self):
        for name in ("a", "z", "m", "none", "ok", "put", "abcdefgh", "zzzzzzzz", "aaaaaaa", "program"):
            bench = Bench(ADDING)
            bench.put(name, ONE)
            self.assertEqual(bench.names(), [name])
        for letter in "abcdefghijklmnopqrstuvwxyz":
            for many in range(1, 9):
                bench = Bench(ADDING)
                bench.put(letter * many, ONE)
                self.assertEqual(bench.names(), [letter * many])

    def test_what_is_no_name(self):
        bench = Bench(ADDING)
        bench.put("b", ONE)
        for thing in no_names():
            self.assertIs(refusal_of(bench.put, thing, ONE), NoName, repr(thing)[:200])
        self.assertEqual(held(bench), {"b": (ONE, 0)})
        bench.undo()
        self.assertIs(refusal_of(bench.undo), NoDeed)

    def test_powers_up_to_a_million(self):
        for place in range(10):
            for power in (0, 1, MILLION - 1, MILLION):
                powers = (0,) * place + (power,) + (0,) * (9 - place)
                bench = Bench(ADDING)
                bench.put("a", powers)
                self.assertTrue(same(bench.powers("a"), powers))
        bench = Bench(ADDING)
        bench.put("a", (MILLION,) * 10)
        self.assertEqual(bench.powers("a"), (MILLION,) * 10)

    def test_what_is_no_powers(self):
        bench = Bench(ADDING)
        bench.put("b", ONE)
        for thing in no_powers():
            for name in ("a", "b"):
                self.assertIs(refusal_of(bench.put, name, thing), NoPowers, repr(thing)[:200])
        self.assertEqual(held(bench), {"b": (ONE, 0)})

    def test_what_was_told_but_has_grown(self):
        bench = Bench(((2, 1),))
        bench.put("a", ONE)
        bench.run("a", MILLION)
        bench.put("b", bench.powers("a"))
        bench.run("a", 1)
        self.assertIs(refusal_of(bench.put, "c", bench.powers("a")), NoPowers)
        bench.run("a", MOST)
        self.assertIs(refusal_of(bench.put, "a", bench.powers("a")), NoPowers)
        self.assertEqual(bench.names(), ["a", "b"])

    def test_twelve_and_the_thirteenth(self):
        bench = filled(ADDING, with_powers(p2=1))
        self.assertEqual(bench.names(), TWELVE)
        for name in ("c", "aa", "abcdefg", "zzzzzzz"):
            self.assertIs(refusal_of(bench.put, name, ONE), TooMany)
        self.assertEqual(bench.names(), TWELVE)
        for name in TWELVE:
            bench.put(name, with_powers(p2=2))
            self.assertEqual(bench.powers(name), with_powers(p2=2))
        bench.drop("m")
        bench.put("c", ONE)
        self.assertIs(refusal_of(bench.put, "m", ONE), TooMany)
        bench.undo()
        bench.put("m", ONE)
        self.assertIs(refusal_of(bench.put, "c", ONE), TooMany)
        self.assertEqual(bench.names(), TWELVE)

    def test_which_refusal_goes_first(self):
        bench = filled(ADDING, with_powers(p2=1))
        before = held(bench)
        for thing in ("", "A", "abcdefghi", None, 1, ["a"], ("c",), {}, True):
            for powers in (ONE, None, list(ONE), (MILLION + 1,) * 10, (-1,) * 10, (True,) * 10):
                self.assertIs(refusal_of(bench.put, thing, powers), NoName)
        for powers in (None, list(ONE), (MILLION + 1,) + ONE[1:], (-1,) + ONE[1:], (True,) + ONE[1:], "1", {}):
            self.assertIs(refusal_of(bench.put, "c", powers), NoPowers)
            self.assertIs(refusal_of(bench.put, "a", powers), NoPowers)
        self.assertIs(refusal_of(bench.put, "c", ONE), TooMany)
        self.assertEqual(held(bench), before)
        for _ in TWELVE:
            bench.undo()
        self.assertEqual(bench.names(), [])
        self.assertIs(refusal_of(bench.undo), NoDeed)


class Run(unittest.TestCase):
    def runs(self, bench, name, many, went):
        told = bench.run(name, many)
        self.assertTrue(same(told, went), (told, went))

    def test_against_steps(self):
        for program, powers in zip(small_programs(150, 4, 3), small_powers(150, 4, 6, 5)):
            reached, _ = walk(program, powers, 30)
            for many in (0, 1, 2, 7, 30):
                bench = Bench(program)
                bench.put("a", powers)
                went = min(many, len(reached) - 1)
                self.runs(bench, "a", many, went)
                self.assertEqual(held(bench), {"a": (reached[went], went)})

    def test_up_to_where_they_rest_and_beyond(self):
        for many, went in ((0, 0), (1, 1), (6, 6), (7, 7), (8, 7), (2001, 7), (MOST, 7)):
            bench = Bench(ADDING)
            bench.put("a", with_powers(p2=7))
            self.runs(bench, "a", many, went)
            self.assertEqual(held(bench), {"a": (with_powers(p2=7 - went, p3=went), went)})
            self.runs(bench, "a", MOST, 7 - went)
            self.runs(bench, "a", MOST, 0)
            self.assertEqual(held(bench), {"a": (with_powers(p3=7), 7)})

    def test_far_on(self):
        bench = Bench(((2, 1),))
        bench.put("a", ONE)
        self.runs(bench, "a", MOST, MOST)
        self.assertEqual(held(bench), {"a": (with_powers(p2=MOST), MOST)})
        self.runs(bench, "a", MOST, MOST)
        self.runs(bench, "a", 1, 1)
        self.assertEqual(held(bench), {"a": (with_powers(p2=2 * MOST + 1), 2 * MOST + 1)})
        bench = Bench(((3 ** 25, 2 ** 39),))
        bench.put("a", with_powers(p2=MILLION))
        self.runs(bench, "a", MOST, MILLION // 39)
        self.assertEqual(bench.powers("a"), with_powers(p2=MILLION % 39, p3=MILLION // 39 * 25))
        bench = Bench(MULTIPLYING)
        bench.put("a", with_powers(p2=20, p3=20))
        went = bench.run("a", MOST)
        self.assertEqual(bench.powers("a"), with_powers(p5=400))
        self.assertEqual(refused_with(leap, MULTIPLYING, with_powers(p2=20, p3=20), MOST).steps, went)

    def test_somewhat_beyond_is_not_refused(self):
        bench = Bench(((2, 1),))
        bench.put("a", ONE)
        self.runs(bench, "a", MOST + 1, MOST + 1)
        self.runs(bench, "a", -1, 0)
        self.assertEqual(held(bench), {"a": (with_powers(p2=MOST + 1), MOST + 1)})

    def test_where_the_leap_is_refused(self):
        bench = Bench(TO_AND_FRO)
        begin = with_powers(p2=5)
        bench.put("a", begin)
        bench.put("b", with_powers(p2=1))
        # The first stretch has five steps, all others one.
        for many in (2005, 2006, MOST):
            self.assertIs(refusal_of(bench.run, "a", many), TooMany)
            self.assertIs(refusal_of(leap, TO_AND_FRO, begin, many), TooMany)
            self.assertEqual(held(bench), {"a": (begin, 0), "b": (with_powers(p2=1), 0)})
        self.runs(bench, "a", 2004, 2004)
        self.assertEqual(bench.powers("a"), after(TO_AND_FRO, begin, 2004))
        self.assertIs(refusal_of(bench.run, "a", MOST), TooMany)
        self.assertEqual(bench.gone("a"), 2004)
        bench.undo()
        self.assertEqual(held(bench), {"a": (begin, 0), "b": (with_powers(p2=1), 0)})
        bench.undo()
        bench.undo()
        self.assertIs(refusal_of(bench.undo), NoDeed)

    def test_rest_just_behind_the_last_stretch(self):
        # Each step is a stretch; with 2000 of them they come to rest, with one more it is refused.
        program = ((7, 10), (5, 14))
        for twos, refused in ((1999, None), (2000, None), (2001, TooMany)):
            begin = with_powers(p2=twos, p5=1)
            bench = Bench(program)
            bench.put("a", begin)
            self.assertIs(refused_once(bench.run, "a", MOST), refused)
            self.assertEqual(bench.gone("a"), 0 if refused else twos)
            self.assertEqual(bench.powers("a")[0], twos if refused else 0)

    def test_by_a_name_that_isnt_there(self):
        bench = Bench(TO_AND_FRO)
        bench.put("b", ONE)
        before = held(bench)
        for thing in list(no_names()) + ["a", "bb", "abcdefgh"]:
            for many in (0, 1, MOST):
                self.assertIs(refusal_of(bench.run, thing, many), NoName, repr(thing)[:200])
            for ask in (bench.drop, bench.powers, bench.gone):
                self.assertIs(refusal_of(ask, thing), NoName, repr(thing)[:200])
        self.assertEqual(held(bench), before)

    def test_dropped_is_not_there(self):
        bench = Bench(ADDING)
        bench.put("a", ONE)
        self.assertIsNone(bench.drop("a"))
        self.assertEqual(bench.names(), [])
        for ask in (bench.drop, bench.powers, bench.gone):
            self.assertIs(refusal_of(ask, "a"), NoName)
        self.assertIs(refusal_of(bench.run, "a", 1), NoName)

    def test_one_beside_another_stays(self):
        bench = filled(ADDING, with_powers(p2=9))
        for place, name in enumerate(TWELVE):
            bench.run(name, place)
        for place, name in enumerate(TWELVE):
            went = min(place, 9)
            self.assertEqual((bench.powers(name), bench.gone(name)), (with_powers(p2=9 - went, p3=went), went))


class Undo(unittest.TestCase):
    def test_each_deed_down_to_none(self):
        bench = Bench(ADDING)
        stands = []
        deeds = (lambda: bench.put("a", with_powers(p2=9)), lambda: bench.run("a", 4), lambda: bench.run("a", 0),
                 lambda: bench.put("b", ONE), lambda: bench.run("b", MOST), lambda: bench.put("a", with_powers(p2=3)),
                 lambda: bench.drop("b"), lambda: bench.run("a", MOST), lambda: bench.run("a", MOST),
                 lambda: bench.drop("a"), lambda: bench.put("b", ONE), lambda: bench.put("a", with_powers(p7=1)))
        for deed in deeds:
            stands.append(held(bench))
            deed()
        for stand in reversed(stands):
            self.assertIsNone(bench.undo())
            self.assertEqual(held(bench), stand)
        for _ in range(3):
            self.assertIs(refusal_of(bench.undo), NoDeed)
            self.assertEqual(held(bench), {})
        bench.put("a", ONE)
        self.assertEqual(held(bench), {"a": (ONE, 0)})

    def test_a_run_that_went_no_step(self):
        for many in (0, 1, MOST):
            bench = Bench(ADDING)
            bench.put("a", with_powers(p3=2))
            self.assertEqual(bench.run("a", many), 0)
            bench.undo()
            self.assertEqual(held(bench), {"a": (with_powers(p3=2), 0)})
            bench.undo()
            self.assertEqual(held(bench), {})
            self.assertIs(refusal_of(bench.undo), NoDeed)
        bench = Bench(((1, 1),))
        bench.put("a", ONE)
        self.assertEqual(bench.run("a", 5), 5)
        self.assertEqual(bench.gone("a"), 5)
        bench.undo()
        self.assertEqual(bench.gone("a"), 0)

    def test_behind_refused_deeds(self):
        bench = Bench(TO_AND_FRO)
        bench.put("a", with_powers(p2=1))
        bench.run("a", 3)
        for call, handed in ((bench.put, ("A", ONE)), (bench.put, ("a", None)), (bench.run, ("b", 1)),
                             (bench.run, ("a", MOST)), (bench.drop, ("b",)), (bench.drop, ([],)),
                             (bench.powers, ("b",)), (bench.gone, (None,))):
            self.assertIsNotNone(refusal_of(call, *handed))
        self.assertEqual(held(bench), {"a": (with_powers(p3=1), 3)})
        bench.undo()
        self.assertEqual(held(bench), {"a": (with_powers(p2=1), 0)})
        bench.undo()
        self.assertIs(refusal_of(bench.undo), NoDeed)

    def test_drop_and_put_by_the_same_name(self):
        bench = Bench(ADDING)
        bench.put("a", with_powers(p2=9))
        bench.run("a", 2)
        bench.run("a", 3)
        bench.drop("a")
        bench.put("a", ONE)
        self.assertEqual(held(bench), {"a": (ONE, 0)})
        bench.undo()
        self.assertEqual(held(bench), {})
        bench.undo()
        self.assertEqual(held(bench), {"a": (with_powers(p2=4, p3=5), 5)})
        self.assertEqual(bench.run("a", MOST), 4)
        self.assertEqual(bench.gone("a"), 9)

    def test_put_anew_and_undone(self):
        bench = Bench(ADDING)
        bench.put("a", with_powers(p2=9))
        bench.run("a", 2)
        bench.put("a", with_powers(p2=5))
        bench.run("a", 1)
        bench.undo()
        bench.undo()
        self.assertEqual(held(bench), {"a": (with_powers(p2=7, p3=2), 2)})

    def test_with_twelve_names(self):
        bench = filled(ADDING, ONE)
        bench.drop("q")
        bench.put("c", ONE)
        bench.undo()
        bench.undo()
        self.assertEqual(bench.names(), TWELVE)
        self.assertIs(refusal_of(bench.put, "c", ONE), TooMany)
        bench.undo()
        bench.put("c", ONE)
        self.assertEqual(bench.names(), sorted(TWELVE[:-1] + ["c"]))

    def test_many_deeds(self):
        bench = Bench(((2, 1),))
        bench.put("a", ONE)
        for _ in range(3000):
            bench.run("a", 1)
        self.assertEqual(bench.gone("a"), 3000)
        for left in range(2999, -1, -1):
            bench.undo()
            self.assertEqual(bench.gone("a"), left)
        self.assertEqual(bench.powers("a"), ONE)


class Asked(unittest.TestCase):
    def test_names_in_the_order_of_texts(self):
        chance = random.Random(7)
        for _ in range(20):
            bench = Bench(ADDING)
            for name in chance.sample(TWELVE, 12):
                bench.put(name, ONE)
            self.assertTrue(same(told_twice(bench.names), TWELVE))
            for name in chance.sample(TWELVE, 5):
                bench.drop(name)
                bench.put(name, ONE)
            self.assertEqual(bench.names(), TWELVE)

    def test_told_lists_are_the_askers_own(self):
        bench = Bench(ADDING)
        none = bench.names()
        none.append("x")
        self.assertEqual(bench.names(), [])
        bench.put("b", ONE)
        told = bench.names()
        told.append("x")
        told[0] = "y"
        self.assertEqual(bench.names(), ["b"])
        earlier = bench.names()
        bench.put("a", ONE)
        self.assertEqual(earlier, ["b"])
        later = bench.names()
        bench.drop("b")
        self.assertEqual((earlier, later), (["b"], ["a", "b"]))

    def test_kinds(self):
        bench = Bench(ADDING)
        bench.put("a", with_powers(p2=5))
        told = bench.run("a", 3)
        self.assertTrue(same((told, bench.gone("a"), bench.powers("a")), (3, 3, with_powers(p2=2, p3=3))))
        self.assertIsNone(bench.put("b", ONE))
        self.assertIsNone(bench.drop("b"))
        self.assertIsNone(bench.undo())

    def test_gone_over_several_runs(self):
        bench = Bench(PRIME_TELLING)
        bench.put("a", with_powers(p2=1))
        total = 0
        for many in (0, 1, 5, 13, 0, 40, 2, 100):
            total += bench.run("a", many)
            self.assertEqual(bench.gone("a"), total)
            self.assertEqual(bench.powers("a"), after(PRIME_TELLING, with_powers(p2=1), total))
        bench.put("a", with_powers(p2=1))
        self.assertEqual(bench.gone("a"), 0)
        bench.run("a", 3)
        self.assertEqual(bench.gone("a"), 3)

    def test_two_benches(self):
        one, other = Bench(ADDING), Bench(ADDING)
        third = Bench(MULTIPLYING)
        one.put("a", with_powers(p2=3))
        self.assertEqual((other.names(), third.names()), ([], []))
        self.assertIs(refusal_of(other.undo), NoDeed)
        other.put("a", with_powers(p2=8))
        third.put("b", with_powers(p2=1, p3=1))
        one.run("a", 2)
        third.run("b", MOST)
        self.assertEqual(held(one), {"a": (with_powers(p2=1, p3=2), 2)})
        self.assertEqual(held(other), {"a": (with_powers(p2=8), 0)})
        self.assertEqual(third.powers("b"), with_powers(p5=1))
        other.drop("a")
        self.assertEqual(one.names(), ["a"])
        one.undo()
        self.assertEqual(held(one), {"a": (with_powers(p2=3), 0)})
        self.assertEqual(held(other), {})


class Drawn(unittest.TestCase):
    """Deeds as chance has it, right and wrong ones, beside a bench that keeps a whole copy ahead of each deed."""

    def deed(self, chance, bench, kept, past, program):
        before = copy.deepcopy(kept)
        name = chance.choice(("a", "b", "c", "dd", "A", "", "none"))
        word = chance.choice(("put", "put", "run", "run", "run", "drop", "undo", "undo"))
        if word == "put":
            powers = chance.choice(list(small_powers(5, 4, 5, chance.randrange(99))) + [None, (MILLION + 1,) * 10])
            refused = NoName if not name.islower() else NoPowers if powers is None or powers[0] > MILLION else None
            self.assertIs(refused_once(bench.put, name, powers), refused)
            kept[name] = [powers, 0, powers]
        elif word == "undo":
            refused = None if past else NoDeed
            self.assertIs(refused_once(bench.undo), refused)
            if past:
                kept.clear()
                kept.update(past.pop())
            return
        elif word == "drop":
            refused = None if name in kept else NoName
            self.assertIs(refused_once(bench.drop, name), refused)
            kept.pop(name, None)
        else:
            many = chance.choice((0, 1, 2, 5, 20))
            refused = None if name in kept else NoName
            if refused:
                self.assertIs(refused_once(bench.run, name, many), refused)
            else:
                reached, used = walk(program, kept[name][0], many)
                self.assertEqual(bench.run(name, many), len(used))
                kept[name] = [reached[-1], kept[name][1] + len(used), kept[name][2]]
        if refused:
            kept.clear()
            kept.update(before)
        else:
            past.append(before)

    def test_against_whole_copies(self):
        chance = random.Random(11)
        for program in small_programs(40, 4, 13):
            bench, kept, past = Bench(program), {}, []
            for _ in range(60):
                self.deed(chance, bench, kept, past, program)
                self.assertEqual(held(bench), {name: (stand[0], stand[1]) for name, stand in kept.items()})
                for name, (_, gone, begin) in kept.items():
                    self.assertEqual(bench.powers(name), after(program, begin, gone))
            while past:
                expected = past.pop()
                bench.undo()
                self.assertEqual(held(bench), {name: (stand[0], stand[1]) for name, stand in expected.items()})
            self.assertIs(refusal_of(bench.undo), NoDeed)

    def test_small_powers_all(self):
        bench = Bench(ALL_GO)
        for powers in box((3, 3, 3)):
            bench.put("a", powers)
            self.assertEqual(bench.run("a", MOST), sum(powers))
            self.assertEqual((bench.powers("a"), bench.gone("a")), (ONE, sum(powers)))
            self.assertIs(refusal_of(after, ALL_GO, powers, sum(powers) + 1), AtRest)
