"""[103]: a desk that answers lines."""

import unittest

from loomwright.clothtext import cloth_text
from loomwright.colours import seen
from loomwright.desk import Desk
from loomwright.draft import Draft
from loomwright.drafttext import draft_text, read_draft
from loomwright.errors import BadRow
from loomwright.faults import all_faults, found_faults
from loomwright.hanging import hangs
from loomwright.layers import layers_of
from loomwright.loom import woven_with
from loomwright.weaving import woven
from tests.makers import STRANGE, Odd, drawn_drafts

TEXT = "shafts 2\ntreadles 2\nthread 2( 1 2 )\ntie 1\ntie 2\ntread 1 2 - 1+2\nwarp a b c d\nweft w x y z"


class Answers(unittest.TestCase):
    def setUp(self):
        self.desk = Desk(TEXT)

    def says(self, line, answer):
        told = self.desk.say(line)
        self.assertIs(type(told), str)
        self.assertEqual(told, answer, repr(line))

    def test_draft(self):
        self.says("draft", draft_text(read_draft(TEXT)).replace("\n", " / "))
        self.says("draft", "shafts 2 / treadles 2 / thread " + " ".join(
            draft_text(read_draft(TEXT)).split("\n")[2].split(" ")[1:])
            + " / tie 1 / tie 2 / tread 1 2 - 1+2 / warp a b c d / weft w x y z")

    def test_cloth(self):
        self.says("cloth", "#.#. / .#.# / .... / ####")

    def test_seen(self):
        self.says("seen", "awcw / xbxd / yyyy / abcd")

    def test_hangs_and_layers(self):
        self.says("hangs", "no")
        self.says("layers", "pick3 / end1 end2 end3 end4 pick1 pick2 / pick4")
        self.desk.say("tread 3 1")
        self.desk.say("tread 4 2")
        self.says("hangs", "yes")
        self.says("layers", "end1 end2 end3 end4 pick1 pick2 pick3 pick4")

    def test_faults(self):
        self.says("faults ###. / .### / .#.. / ####", "none")
        self.says("faults #.#. / .#.# / .... / #.#.", "none")
        self.says("faults .... / .#.# / .... / .#.#", "down 1 / loose 1 1")
        self.says("faults ..#. / .#.# / .... / .###", "broken 1 / drawn 1 0")
        self.says("faults .##. / .#.# / .... / .###", "none")
        self.says("faults #### / .#.# / .... / ####", "tied 1 2")
        self.says("faults #.#. / .#.# / .... / ####", "none")
        self.says("faults ..#. / ##.# / .... / ####", "drawn 1 2")
        self.says("faults #.#. / #### / #.#. / ####", "up 1")

    def test_faults_of_another_size(self):
        for rows in ("#", "#.#.", "#.#. / .#.#", "#.#. / .#.# / .... / #### / ####", "# / # / # / #", "." * 60):
            self.says("faults " + rows, "none")

    def test_deeds(self):
        self.says("thread 1 2", "picks none, ends 1")
        self.says("thread 1 2", "picks none, ends none")
        self.says("thread 4 0", "picks none, ends 4")
        self.says("cloth", "..#. / ##.. / .... / ###.")
        self.says("tie 1 1 2", "picks 1, ends none")
        self.says("tie 1 -", "picks 1 4, ends none")
        self.says("tread 3 1 2", "picks 3, ends none")
        self.says("tread 3 -", "picks 3, ends none")
        self.says("tread 3 -", "picks none, ends none")
        self.says("tread 3 1", "picks none, ends none")
        self.says("tie 2 1 2", "picks 2 4, ends none")
        self.assertEqual(read_draft(self.desk.say("draft").replace(" / ", "\n")).told(), (
            2, 2, [2, 2, 1, 0], [[], [1, 2]], [[1], [2], [1], [1, 2]], list("abcd"), list("wxyz")))

    def test_undo(self):
        before = self.desk.say("draft")
        self.says("undo", "refused")
        self.desk.say("thread 1 2")
        self.desk.say("tie 1 -")
        self.desk.say("tread 3 2")
        self.says("undo", "picks 3, ends none")
        self.says("undo", "picks 1 4, ends none")
        self.says("undo", "picks none, ends 1")
        self.says("undo", "refused")
        self.says("draft", before)

    def test_refused(self):
        before = self.desk.say("draft")
        for line in ("thread 0 1", "thread 5 1", "thread 999 1", "thread 1 3", "thread 1 999", "thread 0 9",
                     "tie 0 1", "tie 3 1", "tie 1 0", "tie 1 3", "tie 1 2 1", "tie 1 1 1", "tie 1 1 2 3", "tie 0 -",
                     "tie 3 -", "tread 0 1", "tread 5 1", "tread 1 0", "tread 1 3", "tread 1 2 1", "tread 1 1 1",
                     "tread 0 -", "tread 5 -", "undo"):
            self.says(line, "refused")
        self.says("draft", before)

    def test_no_line(self):
        before = self.desk.say("draft")
        for line in (
            "", " ", "x", "Draft", "DRAFT", "drafts", "help", "-", "1", "thread", "tie", "tread", "faults",
            # Other counts of words.
            "draft 1", "cloth x", "seen seen", "hangs 1", "layers 1", "undo 1", "thread 1", "thread 1 2 3", "tie 1",
            "tread 1", "draft draft", "colour warp 1 a", "put_end 1 1 a", "take_end 1", "x 1 2", "x -", "x 1 -",
            # Blanks too many.
            " draft", "draft ", "  ", "thread  1 2", "thread 1  2", "thread 1 2 ", " thread 1 2", "tie 1  -", "tie 1 - ",
            # What is no number.
            "thread a 1", "thread 1 a", "thread 1 -", "thread - 1", "thread 01 1", "thread 1 01", "thread 1000 1",
            "thread +1 1", "thread -1 1", "thread 1 1.", "thread 1,1", "tie a 1", "tie 1 a", "tie - 1", "tie - -", "tie 1 1 a",
            "tie 1 - 1", "tie 1 1 -", "tie 1 - -", "tie 1 1+2", "tie 1 01", "tie 1 1000", "tread 1 1+2", "tread a 1",
            "tread 1 a", "tread - -", "tread 1 - 1", "tread 1 1 -", "tread 1 02", "tread 1000 -", "tread 2( 1 )",
            # ROWS that are no cloth.
            "faults ", "faults  ", "faults x", "faults #x", "faults #. / #", "faults # / ##", "faults # /", "faults # / ",
            "faults / #", "faults  / #", "faults #/#", "faults #  / #", "faults #  /  #", "faults # / / #", "faults # #",
            "faults  #", "faults # ", "faults none", "faults " + "#" * 61, "faults " + " / ".join(["#"] * 61), "Faults #",
            " faults #", "faults#", "fault #",
        ):
            self.says(line, "no line")
        self.says("draft", before)
        self.says("undo", "refused")

    def test_a_line_feed(self):
        for line in ("\n", "draft\n", "\ndraft", "draft\ndraft", "thread 1 2\n", "thread 1\n2", "thread\n1 2", "undo\n",
                     "faults #\n#", "faults #.#.\n.#.#\n....\n####", "faults #\n", "faults\n#"):
            self.says(line, "no line")
        self.says("undo", "refused")

    def test_things_that_are_no_texts(self):
        for thing in STRANGE + (0, 1, ["draft"], ("draft",), b"draft", [], Odd(), self.desk):
            if not isinstance(thing, str):
                self.says(thing, "no line")

    def test_long_lines(self):
        self.says("tie 1" + " 1" * 9000, "refused")
        self.says("x" * 20000, "no line")
        self.says("faults " + "#" * 19000, "no line")
        self.says(" ".join(["draft"] * 3000), "no line")

    def test_desks_are_each_of_their_own(self):
        other = Desk(TEXT)
        self.desk.say("thread 1 0")
        self.assertEqual(other.say("cloth"), "#.#. / .#.# / .... / ####")
        self.assertEqual(other.say("undo"), "refused")
        self.says("undo", "picks none, ends 1")

    def test_what_the_program_tells(self):
        for draft in drawn_drafts(103, 60) + [Draft(1, 1, [0], [[]], [[]], ["a"], ["b"])]:
            desk = Desk(draft_text(draft))
            cloth = woven(draft)
            self.assertEqual(desk.say("draft"), draft_text(draft).replace("\n", " / "))
            self.assertEqual(desk.say("cloth"), cloth_text(cloth).replace("\n", " / "))
            self.assertEqual(desk.say("seen"), " / ".join(seen(draft)))
            self.assertEqual(desk.say("hangs"), "yes" if hangs(cloth) else "no")
            self.assertEqual(desk.say("layers"), " / ".join(
                " ".join(f"{kind}{number}" for kind, number in layer) for layer in layers_of(cloth)))
            for other in (cloth, woven_with(draft, all_faults(draft)[-1])):
                told = [" ".join(str(part) for part in fault) for fault in found_faults(draft, other)]
                self.assertEqual(desk.say("faults " + cloth_text(other).replace("\n", " / ")),
                                 " / ".join(told) or "none")


class Texts(unittest.TestCase):
    def refused(self, text, row, word):
        with self.assertRaises(BadRow) as caught:
            Desk(text)
        self.assertIs(type(caught.exception), BadRow)
        self.assertEqual((caught.exception.row, caught.exception.word), (row, word))

    def test_a_text_that_can_not_stand(self):
        self.refused("", 1, 0)
        self.refused(TEXT + "\n", 9, 0)
        self.refused(TEXT.replace("tie 2", "tie 3"), 5, 2)
        self.refused(TEXT.replace("thread", "tread"), 3, 1)
        self.refused(TEXT.replace("\n", " / "), 1, 3)

    def test_things_that_are_no_texts(self):
        for thing in STRANGE + (0, 1, [TEXT], Odd()):
            if not isinstance(thing, str):
                self.refused(thing, 1, 0)
