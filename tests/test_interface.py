"""The interface: each name of it, with its arguments, in its file."""

import importlib
import inspect
import re
import unittest

INTERFACE = """
errors: BadRow(row, word) BadWord(place) TooMany(what, many) NotPlain(what, number) NotGrown(row, column)
words: is_whole(thing) is_among(thing, least, most) is_colour(thing) number_of(word) number_text(number) words_of(row)
groups: spread(words, most, fits) gathered(items)
draft: Draft(shafts, treadles, threading, ties, treading, warp, weft) Draft.told() Draft.ends() Draft.picks()
drafttext: draft_text(draft) read_draft(text)
cloth: Cloth(ends, rows) Cloth.told() Cloth.ends() Cloth.picks() Cloth.row_at(pick) Cloth.column_at(end)
cloth: Cloth.is_up(end, pick) from_behind(cloth)
clothtext: cloth_text(cloth) read_cloth(text)
weaving: lifts_of(draft) woven(draft)
readoff: kind_numbers(masks) kinds_of(masks) read_off(cloth) fewest_shown(cloth)
few: few_ties(lifts) trodden_of(lift, ties) fewest_treadles(cloth)
colours: seen(draft) seen_behind(draft)
turns: mirrored(cloth) upended(cloth) inverted(cloth) quartered(cloth)
draftturns: mirrored_draft(draft) upended_draft(draft) need_plain(draft) inverted_draft(draft) quartered_draft(draft)
joins: beside(one, other) below(one, other) told_over(cloth, across, down) draft_told_over(draft, across, down)
floats: floats_of(cloth) round_floats(cloth) unbound_of(cloth)
repeats: least_repeat(cloth) step_of(cloth) sort_of(cloth)
hanging: over_of(cloth, thread) chain_of(cloth, one, other) hangs(cloth) lifted_with(cloth, thread)
layers: layers_of(cloth)
blocks: grown_by(plan, on, off) plan_of(cloth, on, off)
apart: woven_at_once(cloths) taken_apart(cloth)
faults: is_fault(draft, thing) all_faults(draft) found_faults(draft, cloth)
loom: Loom(draft, fault=None) Loom.step() Loom.pick() Loom.cloth() woven_with(draft, fault)
hand: Hand(draft) Hand.draft() Hand.cloth() Hand.thread(end, shaft) Hand.tie(treadle, shafts)
hand: Hand.tread(pick, treadles) Hand.colour(side, number, colour) Hand.put_end(end, shaft, colour)
hand: Hand.put_pick(pick, treadles, colour) Hand.take_end(end) Hand.take_pick(pick) Hand.undo()
desk: Desk(text) Desk.say(line)
"""


def interface():
    """Each name of the interface, as (file, name, text of its arguments)."""
    for row in INTERFACE.strip().split("\n"):
        file, names = row.split(": ")
        for name, given in re.findall(r"([\w.]+)\(([^)]*)\)", names):
            yield file, name, given


def named(file, name):
    thing = importlib.import_module("loomwright." + file)
    for part in name.split("."):
        thing = getattr(thing, part)
    return thing


class Interface(unittest.TestCase):
    def test_each_name(self):
        for file, name, given in interface():
            with self.subTest(file=file, name=name):
                thing = named(file, name)
                parameters = [str(parameter) for parameter in inspect.signature(thing).parameters.values()]
                if "." in name:
                    self.assertEqual(parameters.pop(0), "self")
                self.assertEqual(", ".join(parameters), given)
                self.assertEqual(inspect.isclass(thing), name[0].isupper() and "." not in name)
                self.assertEqual(thing.__module__, "loomwright." + file)
