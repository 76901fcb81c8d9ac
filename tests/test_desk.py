import random
import unittest

from things import (ADDING, ALL_GO, MULTIPLYING, ONE, PRIME_TELLING, SIXTEEN, TEN, of_every_kind, refusal_of,
                    refused_once, small_powers, small_programs, some_programs, told_twice, with_powers)
from wholefract.before import before
from wholefract.bench import Bench
from wholefract.desk import Desk
from wholefract.errors import FractError, NoDeed, NoName, NoProgram, NoRow, TooMany
from wholefract.fates import fate
from wholefract.texts import powers_written, written

MOST = 10 ** 18
# Words that may stand where a name is due, and are none.
NO_NAMES = ("A", "aB", "abcdefghi", "1", "0", "a1", "a_b", "none!", "2^3", "3/2", "*", "\u00e4", "\u0430", "-", "'",
            "a\tb", "a\nb", "x" * 1900)
# Rows that are right, but for their being said ahead of a program; by a bench that keeps nothing.
RIGHT_ROWS = ("put a 2^3", "put a 1", "put A 2^3*7^1", "put 1 29^1000000", "run a 0", "run a 1000000000000000000",
              "run A 7", "drop a", "drop 17", "undo", "show a", "show A", "gone a", "gone 2^3", "names", "fate a 0",
              "fate a 400", "fate abcdefghij 9", "ahead a", "ahead *", "put program 1", "show names", "run undo 3")
# Other words, too few and too many of them, and what parts words but is no blank.
NO_ROWS = ("", " ", "  ", "\n", "\t", "a", "ok", "Program 3/2", "PROGRAM 3/2", "program", "programs 3/2", "puts a 1",
           "Put a 1", "put", "put a", "put 1", "put a 1 1", "put a b 1", "put a 2^1 3^1", "run", "run a", "run 1",
           "run a 1 1", "run a b 1", "drop", "drop a b", "undo a", "undo 1", "undo undo", "show", "show a b", "gone",
           "gone a b", "gone a 1", "names a", "names names", "fate", "fate a", "fate a 1 1", "fate 1 a", "ahead",
           "ahead a b", "ahead a 1", "step a", "help", "put,a,1", "put\ta\t1", "put a\t1", "undo\n", "\nundo",
           "names\n", "names\t", "names\r", "undo;", "und", "undoo", "names\nundo", "put a 1\n", "run a 1\n",
           "run a\n1", "show\ta", "show\na", "names\u00a0", "put\u00a0a\u00a01", "\ufeffnames", "\ud800", "none",
           "put  1", "run  1", "drop ", "show ", "gone ", "fate  1", "ahead ", "put a ", "run a ", "fate a ", "undo ",
           "names ", "program ")
# Counts that are none: by their form, and by what any row could tell.
NO_COUNTS = ("00", "01", "007", "-1", "+1", "1.0", "1e3", "1_000", "a", "x", "1a", "a1", "0x1", "\u0661", "\u00b2",
             "\u0967", "1\u0661", "\uff11", "12345678901234567890", "00000000000000000000", "10000000000000000000",
             "0000000000000000001", "9999999999999999999", "1\n", "\t1", "9" * 1900, "^", "2^1", "--", "''")
# What writes no powers.
NO_POWERS = ("0", "2", "12", "2^", "^3", "2^0", "2^01", "2^-1", "2^+1", "02^1", "2^1*", "*2^1", "2^1**3^1", "3^1*2^1",
             "2^1*2^1", "4^1", "31^1", "1^1", "1*2^1", "2^1*1", "2^1/3^1", "2**1", "2^1.0", "2^1\n", "2^\u0661", "a",
             "A", "none", "(0,)", "2^1000000000000000000000", "2^3^1", "2\t^1", "2^1*31^1")
# What writes no program; one blank or several words are parts of it.
NO_PROGRAMS = ("3", "3/", "/2", "3/2/1", "6/4", "2/2", "0/2", "3/0", "03/2", "3/02", "-3/2", "3/2,", "31/2", "3/37",
               "3 2", "3/2 1", "3/2 x", "ok", "none", "1000000000001/1", "1099511627776/1", "1/1099511627776", "3/2\n",
               "3/2\t5/3", "\u0663/2", "program", "program 3/2", " ".join(["3/2"] * 17), "3.0/2", "3/2\n5/3", "3:2")


def all_rows(desk, names):
    """What a desk tells of names, asked twice."""
    rows = ["names"] + [f"{word} {name}" for name in names for word in ("show", "gone", "ahead")]
    return [told_twice(desk.say, row) for row in rows]


class Case(unittest.TestCase):
    def says(self, desk, *rows):
        """Rows and their answers by turns."""
        for row, answer in zip(rows[::2], rows[1::2]):
            told = desk.say(row)
            self.assertEqual(told, answer, row)
            self.assertIs(told.__class__, str)

    def desk_of(self, program, **put):
        desk = Desk()
        self.says(desk, f"program {written(program)}", "ok")
        for name, powers in put.items():
            self.says(desk, f"put {name} {powers_written(powers)}", "ok")
        return desk

    def refuses(self, desk, row, error):
        self.assertIs(refusal_of(desk.say, row), error, repr(row)[:200])


class Rows(Case):
    def test_all_one_after_the_other(self):
        self.says(Desk(),
                  "program 455/33 11/13 1/11 3/7 11/2 1/3", "ok",
                  "names", "none",
                  "put a 2^3*3^4", "ok",
                  "put ones 1", "ok",
                  "names", "a ones",
                  "show a", "2^3*3^4",
                  "show ones", "1",
                  "gone a", "0",
                  "fate a 45", "open",
                  "fate a 46", "rests 46 5^12",
                  "fate ones 0", "rests 0 1",
                  "run a 5", "5",
                  "gone a", "5",
                  "show a", "2^2*3^2*5^2*7^2*11^1",
                  "run a 1000000000000000000", "41",
                  "show a", "5^12",
                  "gone a", "46",
                  "ahead a", "5^12*11^1 3^1*5^12",
                  "ahead ones", "11^1 3^1",
                  "run a 1", "0",
                  "undo", "ok",
                  "undo", "ok",
                  "gone a", "5",
                  "drop a", "ok",
                  "names", "ones",
                  "undo", "ok",
                  "show a", "2^2*3^2*5^2*7^2*11^1",
                  "undo", "ok",
                  "show a", "2^3*3^4",
                  "gone a", "0",
                  "program 3/2 2/3", "ok",
                  "names", "none",
                  "put z 2^5", "ok",
                  "fate z 400", "round 4 2",
                  "fate z 6", "round 4 2",
                  "fate z 5", "open",
                  "ahead z", "none")

    def test_programs(self):
        for program in list(some_programs()) + [((1, 1),), SIXTEEN, ((2 ** 39, 3 ** 25),) * 16]:
            desk = Desk()
            self.says(desk, f"program {written(program)}", "ok", "names", "none", f"program {written(program)}", "ok")

    def test_program_begins_anew(self):
        desk = self.desk_of(ADDING, a=with_powers(p2=4), b=ONE)
        self.says(desk, "run a 2", "2", "program 5/2", "ok", "names", "none")
        self.refuses(desk, "undo", NoDeed)
        self.refuses(desk, "show a", NoName)
        self.says(desk, "put a 2^4", "ok", "gone a", "0", "run a 3", "3", "show a", "2^1*5^3")
        self.says(desk, "program 5/2", "ok", "names", "none")
        self.refuses(desk, "gone a", NoName)

    def test_put(self):
        desk = self.desk_of(ADDING)
        for powers, text in ((ONE, "1"), (with_powers(p2=1), "2^1"), (with_powers(p29=10 ** 6), "29^1000000"),
                             ((10 ** 6,) * 10, "*".join(f"{prime}^1000000" for prime in TEN))):
            self.says(desk, f"put a {text}", "ok", "show a", text)
            self.assertEqual(powers_written(powers), text)
        for name in ("a", "z", "abcdefgh", "put", "none", "names", "undo", "ok", "open"):
            self.says(desk, f"put {name} 2^2", "ok", f"show {name}", "2^2", f"drop {name}", "ok")

    def test_a_power_above_a_million(self):
        desk = self.desk_of(ADDING, b=ONE)
        self.says(desk, "put a 2^1000000", "ok")
        for text in ("2^1000001", "2^1000000*3^1000001", "29^9999999", "2^10000000000000", "7^1000000000000000000"):
            for name in ("a", "c", "A"):
                self.refuses(desk, f"put {name} {text}", NoRow)
        self.says(desk, "show a", "2^1000000", "names", "a b")

    def test_names(self):
        desk = self.desk_of(ADDING)
        for name in ("m", "b", "zz", "a", "aa"):
            self.says(desk, f"put {name} 1", "ok")
        self.says(desk, "names", "a aa b m zz", "drop b", "ok", "names", "a aa m zz", "drop a", "ok", "drop aa", "ok",
                  "drop m", "ok", "names", "zz", "drop zz", "ok", "names", "none")

    def test_run_and_gone(self):
        desk = self.desk_of(((2, 1),), a=ONE)
        self.says(desk, "run a 0", "0", "gone a", "0", "run a 1000000000000000000", "1000000000000000000",
                  "run a 1000000000000000000", "1000000000000000000", "gone a", "2000000000000000000",
                  "show a", "2^2000000000000000000", "run a 9", "9", "gone a", "2000000000000000009",
                  "undo", "ok", "gone a", "2000000000000000000")

    def test_show_and_ahead_of_grown_powers(self):
        desk = self.desk_of(((2 ** 39, 3),), a=with_powers(p3=10 ** 6))
        self.says(desk, "ahead a", "none", "run a 1000000", "1000000", "show a", "2^39000000",
                  "ahead a", "2^38999961*3^1", "fate a 0", "rests 0 2^39000000", "undo", "ok", "show a", "3^1000000")
        desk = self.desk_of(((6, 1),), a=ONE)
        self.says(desk, "run a 1000000", "1000000", "ahead a", "2^999999*3^999999", "run a 1", "1",
                  "show a", "2^1000001*3^1000001", "ahead a", "2^1000000*3^1000000",
                  "run a 1000000000000000000", "1000000000000000000",
                  "show a", "2^1000000000001000001*3^1000000000001000001",
                  "ahead a", "2^1000000000001000000*3^1000000000001000000", "fate a 400", "open")
        desk = self.desk_of(((3 ** 25, 5), (2, 1)), a=ONE)
        self.says(desk, "run a 1000000000000000000", "1000000000000000000", "put b 5^1000000", "ok",
                  "run b 1000001", "1000001", "show b", "2^1*3^25000000", "ahead b", "3^25000000 2^1*3^24999975*5^1")

    def test_fates(self):
        for program, powers in zip(small_programs(150, 3, 3), small_powers(150, 3, 4, 5)):
            desk = self.desk_of(program, a=powers)
            for most in (0, 1, 7, 400):
                told = fate(program, powers, most)
                words = [part if isinstance(part, str) else str(part) for part in told]
                if told[0] == "rests":
                    words[2] = powers_written(told[2])
                self.says(desk, f"fate a {most}", " ".join(words))

    def test_ahead(self):
        several = 0
        for program, powers in zip(small_programs(150, 3, 7), small_powers(150, 3, 4, 11)):
            desk = self.desk_of(program, a=powers)
            told = before(program, powers)
            several += len(told) > 1
            self.says(desk, "ahead a", " ".join(map(powers_written, told)) if told else "none")
        self.assertGreater(several, 10)
        desk = self.desk_of(ALL_GO, a=ONE)
        self.says(desk, "ahead a", "29^1 23^1 19^1 17^1 13^1 11^1 7^1 5^1 3^1 2^1")

    def test_asking_changes_nothing(self):
        desk = self.desk_of(MULTIPLYING, a=with_powers(p2=2, p3=2), b=ONE)
        self.says(desk, "run a 3", "3")
        first = all_rows(desk, "ab")
        for row in ("fate a 400", "fate b 0", "ahead a", "names", "show a", "gone a"):
            told_twice(desk.say, row)
        self.assertEqual(all_rows(desk, "ab"), first)
        self.says(desk, "undo", "ok", "gone a", "0", "undo", "ok", "undo", "ok")
        self.refuses(desk, "undo", NoDeed)


class Counts(Case):
    def test_of_one_and_nineteen_figures(self):
        desk = self.desk_of(((1, 1),), a=ONE)
        for many in list(range(12)) + [99, 100, 10 ** 17, MOST - 1, MOST]:
            self.says(desk, f"run a {many}", str(many), "undo", "ok")

    def test_beyond_what_the_stage_tells(self):
        desk = self.desk_of(((1, 1),), a=ONE)
        for many in (MOST + 1, MOST + 2, 2 * MOST, 10 ** 19 - 1, 10 ** 19, 10 ** 20):
            self.refuses(desk, f"run a {many}", NoRow)
            self.refuses(desk, f"run b {many}", NoRow)
        for most in (401, 402, 1000, MOST, MOST + 1, 10 ** 19 - 1, 10 ** 19):
            self.refuses(desk, f"fate a {most}", NoRow)
            self.refuses(desk, f"fate b {most}", NoRow)
        self.says(desk, "fate a 400", "round 0 1", "fate a 0", "open", "gone a", "0")

    def test_what_is_none(self):
        desk = self.desk_of(((1, 1),), a=ONE)
        for word in NO_COUNTS:
            for name in ("a", "b", "B"):
                self.refuses(desk, f"run {name} {word}", NoRow)
                self.refuses(desk, f"fate {name} {word}", NoRow)
        self.says(desk, "gone a", "0", "undo", "ok")
        self.refuses(desk, "undo", NoDeed)


class Refused(Case):
    def test_what_is_no_row(self):
        rows = list(NO_ROWS)
        for row in RIGHT_ROWS + ("program 3/2", "program 3/2 5/3"):
            rows += [" " + row, row + " ", "  " + row, row + "  ", row + " x", "x " + row, "\t" + row, "\n" + row]
            if " " in row:
                rows += [row.replace(" ", "  ", 1), row.capitalize()]
                rows += [row.replace(" ", other) for other in ("", "  ", "\t", "\n", " \t ", "_", "\u00a0")]
        for desk in (Desk(), self.desk_of(ADDING, a=ONE)):
            for row in rows:
                self.refuses(desk, row, NoRow)
        self.says(desk, "names", "a", "show a", "1", "undo", "ok")
        self.refuses(desk, "undo", NoDeed)

    def test_what_is_no_text(self):
        for desk in (Desk(), self.desk_of(ADDING, a=ONE)):
            for thing in of_every_kind() + [["names"], ("names",), {"names": 1}, ["put", "a", "1"], ("undo",)]:
                self.refuses(desk, thing, NoRow)
        self.says(desk, "names", "a")

    def test_what_writes_no_program(self):
        for desk in (Desk(), self.desk_of(ADDING, a=with_powers(p2=3))):
            for text in NO_PROGRAMS:
                self.refuses(desk, f"program {text}", NoRow)
        self.says(desk, "names", "a", "run a 2", "2", "show a", "2^1*3^2", "undo", "ok", "undo", "ok")
        self.refuses(desk, "undo", NoDeed)

    def test_what_writes_no_powers(self):
        for desk in (Desk(), self.desk_of(ADDING, a=with_powers(p2=3))):
            for text in NO_POWERS:
                for name in ("a", "b", "B", "1"):
                    self.refuses(desk, f"put {name} {text}", NoRow)
        self.says(desk, "names", "a", "show a", "2^3")

    def test_ahead_of_a_program(self):
        desk = Desk()
        for row in RIGHT_ROWS:
            self.refuses(desk, row, NoProgram)
        for name in NO_NAMES:
            for row in (f"put {name} 1", f"run {name} 1", f"drop {name}", f"show {name}", f"gone {name}",
                        f"fate {name} 1", f"ahead {name}"):
                self.refuses(desk, row, NoProgram)
        for row in ("put a 2", "run a 01", "run a 1000000000000000001", "fate a 401", "undo 1", "show", "program 3",
                    "put a 2^1000001", "names none"):
            self.refuses(desk, row, NoRow)
        self.refuses(desk, "names", NoProgram)
        self.says(desk, "program 3/2", "ok", "names", "none")
        self.refuses(desk, "undo", NoDeed)

    def test_words_that_are_no_names(self):
        desk = self.desk_of(ADDING, a=ONE)
        for name in NO_NAMES + ("b", "none", "abcdefgh"):
            for row in (f"run {name} 0", f"run {name} {MOST}", f"drop {name}", f"show {name}", f"gone {name}",
                        f"fate {name} 0", f"fate {name} 400", f"ahead {name}"):
                self.refuses(desk, row, NoName)
        for name in NO_NAMES:
            self.refuses(desk, f"put {name} 1", NoName)
            self.refuses(desk, f"put {name} 2^1000000", NoName)
        self.says(desk, "names", "a", "show a", "1", "undo", "ok")
        self.refuses(desk, "undo", NoDeed)

    def test_as_the_stages_tell(self):
        desk = self.desk_of(((3, 2), (2, 3)), **{letter: with_powers(p2=1) for letter in "abcdefghijkl"})
        first = all_rows(desk, "abcdefghijkl")
        self.refuses(desk, "put m 1", TooMany)
        self.refuses(desk, "put M 1", NoName)
        self.refuses(desk, "put m 2", NoRow)
        self.refuses(desk, "run a 2001", TooMany)
        self.refuses(desk, "run a 1000000000000000000", TooMany)
        self.refuses(desk, "run m 2001", NoName)
        self.assertEqual(all_rows(desk, "abcdefghijkl"), first)
        self.says(desk, "put a 2^2", "ok", "run b 2000", "2000", "undo", "ok", "undo", "ok")
        self.assertEqual(all_rows(desk, "abcdefghijkl"), first)
        for _ in range(12):
            self.says(desk, "undo", "ok")
        self.refuses(desk, "undo", NoDeed)
        self.says(desk, "names", "none")

    def test_what_is_refused_changes_nothing(self):
        desk = self.desk_of(PRIME_TELLING, a=with_powers(p2=1), b=with_powers(p2=2))
        self.says(desk, "run a 19", "19")
        first = all_rows(desk, "ab")
        for row in ("program 3", "program", "put a 2", "put A 1", "run a 01", "run c 1", "drop c", "show c",
                    "fate a 401", "ahead c", "undo 1", "", None, 1, [], "names a"):
            self.assertIsNotNone(refusal_of(desk.say, row))
            self.assertEqual(all_rows(desk, "ab"), first)
        self.says(desk, "undo", "ok", "gone a", "0", "show a", "2^1")


class Desks(Case):
    def test_two_beside_one_another(self):
        one, other = Desk(), Desk()
        self.says(one, "program 3/2", "ok")
        self.refuses(other, "names", NoProgram)
        self.says(other, "program 5/2", "ok")
        self.says(one, "put a 2^3", "ok", "run a 2", "2")
        self.says(other, "names", "none", "put a 2^4", "ok", "run a 9", "4", "show a", "5^4")
        self.says(one, "show a", "2^1*3^2", "undo", "ok", "show a", "2^3", "drop a", "ok")
        self.says(other, "show a", "5^4", "gone a", "4", "program 1/1", "ok")
        self.says(one, "undo", "ok", "run a 1", "1", "show a", "2^2*3^1")

    def test_beside_a_bench(self):
        chance = random.Random(13)
        for program in small_programs(30, 4, 17):
            desk, bench = self.desk_of(program), Bench(program)
            for _ in range(40):
                name, many = chance.choice(("a", "b", "cc", "D")), chance.choice((0, 1, 4, 30))
                powers = next(iter(small_powers(1, 4, 5, chance.randrange(99))))
                row, call, handed = chance.choice((
                    (f"put {name} {powers_written(powers)}", bench.put, (name, powers)),
                    (f"run {name} {many}", bench.run, (name, many)), (f"drop {name}", bench.drop, (name,)),
                    ("undo", bench.undo, ()), (f"gone {name}", bench.gone, (name,))))
                try:
                    told = call(*handed)
                    self.says(desk, row, "ok" if told is None else str(told))
                except FractError as refusal:
                    self.assertIs(refused_once(desk.say, row), refusal.__class__)
                self.says(desk, "names", " ".join(bench.names()) or "none")
                for name in bench.names():
                    self.says(desk, f"show {name}", powers_written(bench.powers(name)),
                              f"gone {name}", str(bench.gone(name)))
