"""[M4]: shells."""

import random
import unittest

import reference
from onlyhigher.benches import Bench
from onlyhigher.codes import values_of
from onlyhigher.codetexts import code_text
from onlyhigher.cuts import safe_strengths
from onlyhigher.errors import HigherError
from onlyhigher.looks import least_looks
from onlyhigher.plays import told_state
from onlyhigher.shares import means
from onlyhigher.shells import Shell
from onlyhigher.slips import turn_strengths
from onlyhigher.strengths import strength
from samples import ODD_VALUES, check_kept

FLAT = "code card 1 1 / 0 1 1 0"
LINES = ["label 0,0 1", "lift 2,1", "undo", "redo", "show", "strength 0,0", "told 0,0 1", "safe", "looks", "mean", "slips 0"]


def line_of(code):
    return "code " + code_text(code).replace("\n", " / ")


def state_text(state):
    return "none" if state is None else ",".join(str(level) for level in state)


def value_text(value):
    if isinstance(value, tuple):
        return "(" + ",".join(str(item) for item in value) + ")"
    return "-" if value is None else str(value)


def answer(call):
    """What a shell answers by a call of the functions: a text, or the name of the error."""
    try:
        return call()
    except HigherError as error:
        return "error " + type(error).__name__


def shell_of(code):
    shell = Shell()
    assert shell.say(line_of(code)) == "ok"
    return shell


def codes():
    return list(reference.small_codes())[::13] + list(reference.sparse_codes())[::5] + [code for code, _ in reference.kind_codes()][::9]


class Answers(unittest.TestCase):
    """A shell tells what the functions tell."""

    def test_of_the_code(self):
        for code in codes():
            shell = shell_of(code)
            self.assertEqual(shell.say("show"), code_text(code).replace("\n", " / "))
            self.assertEqual(shell.say("safe"), str(safe_strengths(code)[0]))
            self.assertEqual(shell.say("looks"), str(least_looks(code)))
            self.assertEqual(shell.say("mean"), "%d/%d" % means(code, tuple((value, 1) for value in values_of(code)))[0])
            for slips in range(4):
                self.assertEqual(shell.say("slips %d" % slips), answer(lambda: str(turn_strengths(code, slips)[0])))

    def test_of_states_and_values(self):
        for code in codes():
            shell = shell_of(code)
            states = reference.levels(code[0]) + [(9,) * len(code[0]), (0,) * 7, (999999,)]
            for state in states:
                self.assertEqual(shell.say("strength " + state_text(state)), answer(lambda: str(strength(code, state))))
                for value in reference.values(code) + [None, "zz", 999, (0, "a", 0, 0)]:
                    line = "told %s %s" % (state_text(state), value_text(value))
                    self.assertEqual(shell.say(line), answer(lambda: state_text(told_state(code, state, value))))

    def test_of_a_bench(self):
        pick = random.Random(1)
        for code in codes():
            shell, bench = shell_of(code), Bench(code)
            for _ in range(15):
                word = pick.choice(["label", "lift", "undo", "redo"])
                state = tuple(max(0, level + pick.choice([-1, 0, 0, 1])) for level in pick.choice(reference.levels(bench.code[0])))
                if word == "label":
                    value = pick.choice(reference.values(code) + [None, 5, "z", (1, "a")])
                    self.assertEqual(shell.say("label %s %s" % (state_text(state), value_text(value))), answer(
                        lambda: "version %d" % bench.relabel(state, value)))
                elif word == "lift":
                    card = tuple(top + pick.choice([0, 0, 0, 1, -1]) for top in bench.code[0]) + (1,) * pick.choice([0, 0, 0, 1])
                    self.assertEqual(shell.say("lift " + state_text(card)), answer(lambda: "version %d" % bench.lift(card)))
                else:
                    self.assertEqual(shell.say(word), answer(lambda: "version %d" % getattr(bench, word)()))
                self.assertEqual(shell.say("show"), code_text(bench.code).replace("\n", " / "))

    def test_many_edits(self):
        shell = shell_of(((1,), (0, 1)))
        for at in range(40):
            self.assertEqual(shell.say("label 1 %d" % (at + 2)), "version %d" % (at + 1))
        self.assertEqual(shell.say("label 1 7"), "error TooManyEdits")
        self.assertEqual(shell.say("lift 2"), "error TooManyEdits")
        self.assertEqual(shell.say("redo"), "error NothingToRedo")
        self.assertEqual([shell.say("undo"), shell.say("show"), shell.say("redo")], ["version 39", "card 1 / 0 40", "version 40"])
        # A new bench has no edits.
        self.assertEqual([shell.say(FLAT), shell.say("undo"), shell.say("label 1,1 -")], ["ok", "error NothingToUndo", "version 1"])

    def test_each_error(self):
        shell = shell_of(((1, 1), (0, 1, 1, None)))
        for line, name in (("code card 1", "BadText"), ("label 2,0 1", "NoState"), ("label 0,0 -", "BadCode"), ("label 0,0 1", "BadCode"),
                           ("lift 8,1", "BadCard"), ("lift 0", "BadCard"), ("lift 1", "Unfit"), ("lift 1,1,1,1,1,1,1", "BadCard"),
                           ("strength 0", "NoState"), ("strength 1,1", "Unfit"), ("told 0,0 2", "NoValue"), ("told 0,0 0", "Unfit"),
                           ("told 1,1 0", "Unfit"), ("told 1,1 -", "NoValue"), ("told 7,1 -", "NoState"), ("slips 3", "Crowded"),
                           ("undo", "NothingToUndo"), ("redo", "NothingToRedo")):
            self.assertEqual(shell.say(line), "error " + name, line)
        self.assertEqual(shell.say("show"), "card 1 1 / 0 1 1 -")

    def test_great_codes(self):
        for code in reference.GREAT:
            shell = shell_of(code)
            state = (0,) * len(code[0])
            value = [name for name in reference.values(code) if name != code[1][0]][0]
            self.assertEqual(shell.say("strength " + state_text(state)), str(strength(code, state)))
            self.assertEqual(shell.say("told %s %d" % (state_text(state), value)), state_text(told_state(code, state, value)))
            self.assertEqual(shell.say("looks"), str(least_looks(code)))
            self.assertEqual(shell.say("safe"), str(safe_strengths(code)[0]))
            self.assertEqual(shell.say("mean"), "%d/%d" % means(code, tuple((name, 1) for name in values_of(code)))[0])
            self.assertEqual(shell.say("slips 0"), str(turn_strengths(code, 0)[0]))
            self.assertEqual(shell.say("show"), line_of(code)[5:])


class First(unittest.TestCase):
    """Ahead of the first code."""

    def test_no_bench(self):
        shell = Shell()
        for line in LINES:
            head = line.split(" ")[0]
            for other in (line, head, head + " ", line + " ", line + " 1", head + "  x", head + " /", head + " \n"):
                self.assertEqual(shell.say(other), "no bench", other)

    def test_what(self):
        for begun in (False, True):
            shell = Shell()
            if begun:
                self.assertEqual(shell.say(FLAT), "ok")
            for line in ODD_VALUES + [7, ["show"], ("show",), "go", "code", "Show", "SHOW", " show", "show\n", "codes card 1 / 0 1", "shows",
                                      "label\t0,0 1", "undo,", "error", "ok", "what", "no bench", "version 1", "\ncode card 1 / 0 1",
                                      " code card 1 / 0 1", "strength\n0,0", "batch 1", "copy", "rename 0", "-", "tell 0,0 1"]:
                if line != "":
                    self.assertEqual(shell.say(line), "what", line)
                check_kept(self, shell.say, line)
            self.assertEqual(shell.say(""), "what")

    def test_refused_codes(self):
        shell = Shell()
        for line in ("code ", "code x", "code card", "code card 1 / 0", "code card 1 / 0 0", "code card 1 1 /0 1 1 0", "code  card 1 / 0 1"):
            self.assertEqual(shell.say(line), "error BadText", line)
            self.assertEqual(shell.say("show"), "no bench")
        self.assertEqual([shell.say("code card 1 / 0 1"), shell.say("show")], ["ok", "card 1 / 0 1"])


class Codes(unittest.TestCase):
    def test_texts(self):
        for code in codes() + [((1, 2), ("up", None, (3, "ab"), "up", 7, (3,)))]:
            self.assertEqual(shell_of(code).say("show"), line_of(code)[5:])

    def test_line_feeds(self):
        # The text of the code has a line feed; a " / " only stands for it.
        shell = Shell()
        self.assertEqual([shell.say("code card 1\n0 1"), shell.say("show")], ["ok", "card 1 / 0 1"])
        for line in ("code card 1/0 1", "code card 1 /0 1", "code card 1/ 0 1", "code card 1 /  / 0 1", "code card 1 / 0 1 / ",
                     "code card 1 / 0 1\n", "code  / card 1 / 0 1", "code card 1  / 0 1", "code card 1 /  0 1", "code card 1 0 1",
                     "code card 1 / 0 1 ", "code card 1 // 0 1", "code card 1 / / 0 1", "code card 1 \n 0 1"):
            self.assertEqual(shell.say(line), "error BadText", line)

    def test_a_refused_code_leaves_the_bench(self):
        shell = shell_of(((1, 1), (0, 1, 1, 0)))
        shell.say("label 1,1 -")
        for line, told in (("code card 1 / 0", "error BadText"), ("code", "what"), ("code ", "error BadText")):
            self.assertEqual([shell.say(line), shell.say("show")], [told, "card 1 1 / 0 1 1 -"])
        self.assertEqual([shell.say("undo"), shell.say("redo"), shell.say("code card 2 / a b -"), shell.say("redo"), shell.say("show")],
                         ["version 0", "version 1", "ok", "error NothingToRedo", "card 2 / a b -"])


class Lines(unittest.TestCase):
    def setUp(self):
        self.shell = shell_of(((2, 1), (0, 1, (3, "a"), "b", 1, None)))

    def what(self, *lines):
        before = self.shell.say("show")
        for line in lines:
            self.assertEqual(self.shell.say(line), "what", line)
        self.assertEqual(self.shell.say("show"), before)
        self.assertEqual(self.shell.say("undo"), "error NothingToUndo")

    def test_whole_lines(self):
        for head in ("undo", "redo", "show", "safe", "looks", "mean"):
            self.what(head + " ", head + " 1", head + "  ", head + " " + head, head + ",", head + " 0,0")

    def test_lines_with_a_rest(self):
        for head in ("label", "lift", "strength", "told", "slips"):
            self.what(head, head + " ", head + "  ", head + "  0,0", head + "  0,0 1", head + " x", head + " /")

    def test_blanks(self):
        self.what("strength 0,0 ", "strength 0,0 1", "strength 0, 0", "strength  0,0", "lift 2,1 ", "lift 2,1 1", "lift 2 1", "slips 1 ",
                  "slips  1", "slips 1 1", "told 0,0", "told 0,0 ", "told 0,0  1", "told 0,0 1 ", "told 0,0 1 1", "told  0,0 1",
                  "label 0,0", "label 0,0 ", "label 0,0  1", "label 0,0 1 ", "label 0,0 1 1", "label  0,0 1", "label 0,0 (3, a)",
                  "told 0,0 (3, a)")

    def test_counts(self):
        for word in ("", "00", "01", "-1", "+1", "-0", "1.0", "1e1", "0x1", "1_0", "a", "-", "1234567", "0000000", "1 ", "\n1", "1\n", "(1)",
                     "one", "1" * 5000, "0 1"):
            self.what("slips " + word, "strength 0," + word, "strength " + word + ",0", "lift 2," + word, "told " + word + ",0 1",
                      "label 0," + word + " 1")
        for word in ("2", "10", "999999", "123456"):
            self.assertEqual(self.shell.say("strength 0," + word), "error NoState")
            self.assertEqual(self.shell.say("lift 2," + word), "version 1" if word == "2" else "error BadCard")
            self.assertEqual(self.shell.say("label 9," + word + " 1"), "error NoState")
        self.assertEqual(self.shell.say("strength 0"), "error NoState")
        self.assertEqual(self.shell.say("strength 0,0,0"), "error NoState")

    def test_states(self):
        self.what("strength ,", "strength 0,", "strength ,0", "strength 0,,0", "strength 0;0", "strength (0,0)", "strength [0,0]", "lift ,",
                  "lift 2,", "lift (2,1)", "lift -", "strength -", "told - 1", "label - 1", "told none 1")

    def test_slips(self):
        self.assertEqual(self.shell.say("slips 0"), str(turn_strengths(((2, 1), (0, 1, (3, "a"), "b", 1, None)), 0)[0]))
        for line in ("slips 1", "slips 2", "slips 3"):
            self.assertEqual(self.shell.say(line), "error Crowded")
        self.what("slips 4", "slips 10", "slips 999999", "slips -1", "slips 0,0")
        withstands = shell_of(((7,), (0, None, None, None, 1, None, None, None)))
        self.assertEqual([withstands.say("slips %d" % many) for many in range(4)], ["1", "1", "1", "1"])

    def test_values(self):
        for word in ("A", "a1", "1a", "1000", "01", "-1", "abcdefghi", "()", "(", ")", "(3", "3)", "(3,)", "(,3)", "(3,,a)", "((3))", "(-)",
                     "(a,-)", "(1,2,3,4,5)", "(1000)", "(01)", "(A)", "None", "[3]", "'a'", "--", "a,b", "(3;a)", "a\n"):
            self.what("label 0,0 " + word, "told 0,0 " + word)
        for word in ("0", "999", "a", "abcdefgh", "(0)", "(999,abcdefgh,0,a)", "(a,b)"):
            shell = shell_of(((1,), (7, 8)))
            self.assertEqual([shell.say("label 1 " + word), shell.say("show")], ["version 1", "card 1 / 7 " + word])
            self.assertEqual(shell.say("told 0 " + word), "1")
        self.assertEqual(self.shell.say("told 0,0 (3,a)"), "1,0")
        self.assertEqual(self.shell.say("told 0,0 (3,b)"), "error NoValue")

    def test_none(self):
        self.assertEqual(self.shell.say("told 0,0 -"), "error NoValue")
        self.assertEqual(self.shell.say("told 2,1 -"), "error NoValue")
        self.assertEqual(self.shell.say("told 9,9 -"), "error NoState")
        self.assertEqual([self.shell.say("label 2,0 -"), self.shell.say("show")], ["version 1", "card 2 1 / 0 1 (3,a) b - -"])
        self.assertEqual(self.shell.say("told 1,0 0"), "none")

    def test_numbers_in_words(self):
        shell = shell_of(((3,), (10, 1, 100, 0)))
        self.assertEqual([shell.say("told 0 0"), shell.say("told 0 100"), shell.say("told 1 10")], ["3", "2", "none"])
        self.assertEqual(shell.say("strength 0"), "1")

    def test_by_name(self):
        self.assertEqual(self.shell.say(line="looks"), "2")

    def test_shells_go_their_own_ways(self):
        one, other = Shell(), Shell()
        self.assertEqual([one.say(FLAT), other.say("show"), other.say("code card 1 / a b"), one.say("show")],
                         ["ok", "no bench", "ok", "card 1 1 / 0 1 1 0"])


if __name__ == "__main__":
    unittest.main()
