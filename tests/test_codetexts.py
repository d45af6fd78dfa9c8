"""[A11]: the texts of codes."""

import unittest

import reference
from onlyhigher.codes import code_error
from onlyhigher.codetexts import code_text, read_code
from onlyhigher.errors import BadText
from samples import ODD_VALUES, check_error, check_kept, same

MIXED = ((1, 2), ("up", None, (3, "ab"), "up", 7, (3,)))
FULL = ((1, 1), (0, 999, ("abcdefgh", 0, 10, "z"), None))


class Texts(unittest.TestCase):
    def test_text(self):
        self.assertEqual(code_text(FULL), "card 1 1\n0 999 (abcdefgh,0,10,z) -")
        self.assertEqual(code_text(((7,), (0, 1, 2, 3, 4, 5, 6, None))), "card 7\n0 1 2 3 4 5 6 -")
        self.assertEqual(code_text(((1,), ("card", 100))), "card 1\ncard 100")

    def test_there_and_back(self):
        texts = {}
        for code in list(reference.small_codes()) + reference.GREAT + [MIXED, FULL]:
            text = code_text(code)
            self.assertTrue(same(read_code(text), code))
            self.assertIn(texts.setdefault(text, code), [code])
            texts[text] = code
        self.assertEqual(len(texts), len(set(texts.values())))

    def test_by_name_and_kept(self):
        self.assertEqual(read_code(value=code_text(code=MIXED)), MIXED)
        check_kept(self, code_text, MIXED)
        check_kept(self, read_code, code_text(MIXED))


class BadTexts(unittest.TestCase):
    def check_bad(self, value):
        check_error(self, BadText(), read_code, value)

    def test_other_kinds(self):
        for value in ODD_VALUES + [MIXED, ["card 1\n0 1"], ("card 1\n0 1",), {"card 1\n0 1": 0}]:
            self.check_bad(value)
            check_kept(self, read_code, value)

    def test_blanks_and_line_feeds(self):
        text = code_text(MIXED)
        for at in range(len(text) + 1):
            for sign in (" ", "\n"):
                self.check_bad(text[:at] + sign + text[at:])
        for at, sign in enumerate(text):
            if sign in " \n":
                self.check_bad(text[:at] + text[at + 1:])
                self.check_bad(text[:at] + ("\n" if sign == " " else " ") + text[at + 1:])
                self.check_bad(text[:at] + "\t" + text[at + 1:])
                self.check_bad(text[:at] + "\r" + text[at + 1:])

    def test_cards(self):
        for head in ("", "card", "card ", "card 0", "card 8", "card 01", "card 1 ", "card  1", " card 1", "Card 1", "cards 1",
                     "1", "card,1", "card one", "card -1", "card +1", "card 1.", "card (1)", "card -", "card 1,1", "card 10",
                     "card " + "1" * 5000, "card " + "0" * 5000, "card 0001"):
            self.check_bad(head + "\n0 1")
        self.check_bad("card 1 1 1 1 1 1 1\n" + " ".join(["0", "1"] * 64))
        self.check_bad("card 7 7 7 1\n" + " ".join(["0", "1"] * 512))
        self.assertEqual(read_code("card 1 1 1 1 1 1\n" + " ".join(["0", "1"] * 32))[0], (1,) * 6)

    def test_labels(self):
        for word in ("", "00", "01", "007", "000", "1000", "-0", "-1", "+1", "1.", "0x1", "1_0", "Up", "uP", "ninechars",
                     "a1", "1a", "a-b", "--", "()", "(", ")", "(1", "1)", "(12", "12)", "(1,2", "1,2)", "1,2", "(ab",
                     "ab)", "a(b)", "(1,)", "(,1)", "(,)", "(1,,2)", "(1,2,3,4,5)",
                     "((1))", "((1),2)", "(-)", "(1,-)", "(01)", "(1,00)", "(1000)", "(Up)", "(1;2)", "[1]", "'a'", "None",
                     "True", "(1)(2)", "(1,2))", "(ninechars)", "\u0661", "\u00b2", "\u00e9", "1" * 5000, "9" * 15000,
                     "0" * 5000, "(" + "1" * 5000 + ")", "a" * 15000, "(" * 5000, "(1" + ",1" * 5000 + ")"):
            self.check_bad("card 1\n0 " + word)
            self.check_bad("card 1\n" + word + " 0")
        for word, name in (("0", 0), ("10", 10), ("999", 999), ("a", "a"), ("abcdefgh", "abcdefgh"), ("(0)", (0,)),
                           ("(1,a,2,b)", (1, "a", 2, "b")), ("(100)", (100,))):
            self.assertTrue(same(read_code("card 1\nother " + word), ((1,), ("other", name))))

    def test_blanks_in_tuples(self):
        for word in ("(1, 2)", "( 1)", "(1 )", "(1 ,2)"):
            self.check_bad("card 1\n0 " + word)

    def test_texts_of_no_codes(self):
        for labels in ("0", "0 1 0", "0 1 0 1", "0 -", "- 0", "- -", "0 0", "a a", "(1) (1)"):
            self.check_bad("card 1\n" + labels)
        self.check_bad("card 7 7 1\n" + " ".join([str(at) for at in range(65)] + ["-"] * 63))
        self.assertIsNone(code_error(read_code("card 7 7 1\n" + " ".join([str(at) for at in range(64)] + ["-"] * 64))))

    def test_lines(self):
        self.check_bad("card 1")
        self.check_bad("card 1\n")
        self.check_bad("\ncard 1\n0 1")
        self.check_bad("card 1\n\n0 1")
        self.check_bad("card 1\n0 1\n")
        self.check_bad("card 1\n0\n1")
        self.check_bad("card 1 0 1")
        self.check_bad("card 1\r\n0 1")
        self.check_bad("\n" * 20000)
        self.check_bad(" " * 20000)
        self.check_bad("card" + " 1" * 9000 + "\n0 1")
        self.check_bad("card 1\n" + "0 1 " * 4000)


if __name__ == "__main__":
    unittest.main()
