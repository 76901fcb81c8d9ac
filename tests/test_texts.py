import math
import re
import unittest

from things import of_every_kind, refusal_of, told_twice
from wholefract.errors import NoText
from wholefract.programs import is_powers, is_program
from wholefract.texts import powers_read, powers_written, read, written

TEN = (2, 3, 5, 7, 11, 13, 17, 19, 23, 29)
SIGNS = "0123456789/^* \n\t+-_.,x\u0663\u00b2\uff11"
PROGRAMS = {
    "455/33 11/13 1/11": ((455, 33), (11, 13), (1, 11)),
    "1/1": ((1, 1),),
    "6/1": ((6, 1),),
    "3/2 3/2": ((3, 2), (3, 2)),
    "1000000000000/3 7/1000000000000": ((10 ** 12, 3), (7, 10 ** 12)),
    "17/91 78/85 19/51 23/38 29/33 77/29 95/23 77/19 1/17 11/13 13/11 15/14 15/2 55/1":
        ((17, 91), (78, 85), (19, 51), (23, 38), (29, 33), (77, 29), (95, 23), (77, 19), (1, 17), (11, 13), (13, 11),
         (15, 14), (15, 2), (55, 1)),
    " ".join(["2/3"] * 16): ((2, 3),) * 16,
}
POWERS = {
    "2^3*7^1": (3, 0, 0, 1, 0, 0, 0, 0, 0, 0),
    "1": (0,) * 10,
    "2^1": (1,) + (0,) * 9,
    "29^1": (0,) * 9 + (1,),
    "29^1000000": (0,) * 9 + (10 ** 6,),
    "3^10*5^100": (0, 10, 100) + (0,) * 7,
    "2^1*3^1*5^1*7^1*11^1*13^1*17^1*19^1*23^1*29^1": (1,) * 10,
    "2^1000000*3^1000000*5^1000000*7^1000000*11^1000000*13^1000000*17^1000000*19^1000000*23^1000000*29^1000000":
        (10 ** 6,) * 10,
}


def of_the_ten(number):
    for prime in TEN:
        while number % prime == 0:
            number //= prime
    return number == 1


def program_by_pattern(text):
    """The program that a text writes, or None, told another way than the program tells it."""
    if re.fullmatch("[1-9][0-9]*/[1-9][0-9]*( [1-9][0-9]*/[1-9][0-9]*){0,15}", text) is None:
        return None
    program = tuple(tuple(int(part) for part in word.split("/")) for word in text.split(" "))
    for top, bottom in program:
        if max(top, bottom) > 10 ** 12 or math.gcd(top, bottom) > 1 or not of_the_ten(top * bottom):
            return None
    return program


def powers_by_pattern(text):
    """The powers that a text writes, or None, told another way than the program tells it."""
    pattern = "".join(rf"(?:\*?\b{prime}\^([1-9][0-9]*)\b)?" for prime in TEN)
    found = re.fullmatch(pattern, text, re.ASCII)
    if text == "1":
        return (0,) * 10
    if found is None or text == "" or text[0] == "*":
        return None
    powers = tuple(int(often or "0") for often in found.groups())
    return powers if max(powers) <= 10 ** 6 else None


def faulty(text):
    """All texts with one sign put in, left out or exchanged, or two neighbours in the other order."""
    for place in range(len(text) + 1):
        for sign in SIGNS:
            yield text[:place] + sign + text[place:]
            if place < len(text):
                yield text[:place] + sign + text[place + 1:]
        yield text[:place] + text[place + 1:]
        yield text[:place] + text[place:place + 2][::-1] + text[place + 2:]


class Texts(unittest.TestCase):
    def same_as_by_pattern(self, call, pattern, text):
        expected = pattern(text)
        if expected is None:
            self.assertIs(refusal_of(call, text), NoText, repr(text))
        else:
            self.assertEqual(call(text), expected, repr(text))

    def refused(self, call, texts):
        for text in texts:
            self.assertIs(refusal_of(call, text), NoText, repr(text)[:200])


class Programs(Texts):
    def test_there_and_back(self):
        for text, program in PROGRAMS.items():
            self.assertEqual(told_twice(written, program), text)
            self.assertEqual(told_twice(read, text), program)
            self.assertTrue(is_program(read(text)))

    def test_one_sign_otherwise(self):
        for text in PROGRAMS:
            for other in faulty(text):
                self.same_as_by_pattern(read, program_by_pattern, other)

    def test_how_many_fractions(self):
        self.refused(read, ["", " ", " ".join(["2/3"] * 17), " ".join(["2/3"] * 500), " ".join(["2/3"] * 2500)])

    def test_blanks_and_line_feeds(self):
        self.refused(read, [" 2/3", "2/3 ", "2/3  5/7", "2/3\n", "\n2/3", "2/3\n5/7", "2/3\t5/7", "2 /3", "2/ 3",
                            "2/3\r", "2/3\u00a05/7", "2/3,5/7", "2/35/7", "2/3 \n5/7", "2/3\x00", "2/3\u2028"])

    def test_noughts_and_signs_ahead(self):
        self.refused(read, ["02/3", "2/03", "002/3", "0/3", "2/0", "0/0", "00/1", "+2/3", "2/+3", "-2/3", "2/-3",
                            "-2/-3", "2_0/3", "2.0/3", "2e1/3", "0x2/3", "2/3.", "(2/3)"])

    def test_parts_missing_or_more(self):
        self.refused(read, ["2", "/", "2/", "/3", "2//3", "2/3/5", "/2/3", "2/3/", "2/3 5", "5 2/3", "1", "2^1", "2*3",
                            "2\\3", "2:3"])

    def test_no_fractions(self):
        self.refused(read, ["2/2", "4/6", "6/4", "455/35", "31/2", "2/31", "62/3", "1/37", "1000005161400/1",
                            "1/1000005161400", "1099511627776/1", "10000000000000/3", "1/3000000000000",
                            "9" * 1000 + "/1", "1/" + "9" * 1000, "2" * 5000 + "/3", "1/3 2/2", "2/2 1/3"])

    def test_figures_of_other_scripts(self):
        self.refused(read, ["\u0662/3", "2/\u0663", "\uff12/3", "\u00b2/3", "2/\u00b3", "\u0967/1", "\u2460/1",
                            "2\u20443", "\u00bd", "1\u0660/3", "\U0001d7d0/3"])

    def test_of_anything(self):
        self.refused(read, of_every_kind() + [((2, 3),), (2, 3), [(2, 3)], ["2/3"], ("2/3",), {"2/3": "2/3"}, 1, 2])


class Powers(Texts):
    def test_there_and_back(self):
        for text, powers in POWERS.items():
            self.assertEqual(told_twice(powers_written, powers), text)
            self.assertEqual(told_twice(powers_read, text), powers)
            self.assertTrue(is_powers(powers_read(text)))

    def test_single_primes(self):
        for place, prime in enumerate(TEN):
            for often in (1, 2, 9, 10, 11, 100, 999999, 10 ** 6):
                powers = (0,) * place + (often,) + (0,) * (9 - place)
                self.assertEqual(powers_written(powers), f"{prime}^{often}")
                self.assertEqual(powers_read(f"{prime}^{often}"), powers)

    def test_written_however_great(self):
        self.assertEqual(powers_written((10 ** 6 + 1,) + (0,) * 9), "2^1000001")
        for figures in (7, 17, 18, 59, 60, 61, 119, 120, 121, 240, 5000):
            great = "1" + "0" * figures
            self.assertEqual(powers_written((0, 10 ** figures) + (0,) * 7 + (10 ** figures,)), f"3^{great}*29^{great}")
            self.assertEqual(powers_written((10 ** figures - 1,) + (0,) * 9), "2^" + "9" * figures)

    def test_read_up_to_the_greatest(self):
        self.refused(powers_read, ["2^1000001", "29^1000001", "2^9999999", "2^10000000", "2^1000000*3^1000001",
                                   "2^" + "9" * 20, "2^" + "1" * 1990, "2^" + "1" * 5000])

    def test_one_sign_otherwise(self):
        for text in POWERS:
            for other in faulty(text):
                self.same_as_by_pattern(powers_read, powers_by_pattern, other)

    def test_order_and_twice(self):
        self.refused(powers_read, ["3^1*2^1", "7^1*2^3", "29^1*23^1", "2^1*2^1", "2^1*2^2", "2^1*3^1*2^1",
                                   "3^1*3^1", "2^1*5^1*3^1", "*".join(["2^1"] * 400)])

    def test_powers_of_nought_and_of_one(self):
        self.refused(powers_read, ["2^0", "2^0*3^1", "2^1*3^0", "2^00", "29^0", "1^1", "1*2^1", "2^1*1", "1*1", "0",
                                   "01", "1^0", "11", "1/1", "0^1", "1 ", " 1", "1\n", "+1"])

    def test_no_primes_of_the_ten(self):
        self.refused(powers_read, ["31^1", "37^2", "4^1", "6^1", "9^2", "2^1*4^1", "2^1*31^1", "31^1*2^1", "30^1",
                                   "99999999999999^1", "-2^1"])

    def test_noughts_ahead(self):
        self.refused(powers_read, ["02^1", "2^01", "2^1*03^1", "2^1*3^01", "2^0000001", "2^10*3^010"])

    def test_signs_missing_or_more(self):
        self.refused(powers_read, ["", " ", "*", "^", "2", "2^", "^1", "2^^1", "2**1", "2^1*", "*2^1", "2^1**3^1",
                                   "2^1^1", "2*3", "2*3^1", "2^1*3", "2^1 3^1", "2^1 *3^1", "2^1* 3^1", "2 ^1", "2^ 1",
                                   "2^1 ", " 2^1", "2^1\n", "\n2^1", "2^1\r", "2^1\t", "2^+1", "2^-1", "2^1_0",
                                   "2^1.0", "2^1,3^1", "2/3", "56", "2^1\x00", "2^1\u2028"])

    def test_figures_of_other_scripts(self):
        self.refused(powers_read, ["\u0662^1", "2^\u0661", "2\u00b3", "2^\u00b3", "\uff12^\uff11", "2^1\u0660",
                                   "\uff11", "\u00b9", "2^\U0001d7cf", "2\u22171"])

    def test_of_anything(self):
        self.refused(powers_read, of_every_kind() + [(0,) * 10, (1,) * 10, ["1"], ("1",), {"1": "1"}, ["2^1"], 1, 2])
