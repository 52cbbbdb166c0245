"""The whole program [1]: small SOURCES made plainly, changed in all ways, beside the machine in WORLDS of few turns."""

import unittest

from builtahead.board import Board
from builtahead.bounds import is_enough_order, least_order
from builtahead.desk import answers
from builtahead.edits import Watch, edited, may_wait, undone_by, way_of_waits
from builtahead.errors import MadeError
from builtahead.flows import all_conditions
from builtahead.folds import reads_by, too_few, waits_to_fold, with_least_cells
from builtahead.free import cells_for, fewest_waits, free_order, free_waits, seats_for, spots_for, swaps
from builtahead.hands import is_stuck, needed_waits, waits_for
from builtahead.lastword import faults, is_right, is_why_right, kept_reads, why_right
from builtahead.machine import is_world, tells_right
from builtahead.mades import (
    home_of, is_made, made_from, made_text, names_in, plain_made, with_home, with_mask, with_rows, with_waits,
)
from builtahead.masks import greatest_masks, least_masks, off_masks, with_masks
from builtahead.moves import needless_moves, passed, places_for, put_in
from builtahead.needs import struck
from builtahead.parting import is_part_world, part_world
from builtahead.runs import has_run
from builtahead.seats import is_layout, least_layout, seated
from builtahead.sources import is_source, source_from, source_text, source_told
from builtahead.texts import story_from, story_text
from builtahead.times import never_later
from builtahead.twomades import is_beaten, unbeaten, widths_apart
from tests.test_edits import random_edit
from tests.tools import dice, random_rows
from tests.worlds import all_told, buffer, even_source, some_widths, told_by_hand


def some_sources(seed, count, most=3):
    rng = dice(seed)
    for _ in range(count):
        yield rng, even_source(rng, most, "xy", (0, 1, 1), 2)


def with_hands(rng, source, made):
    """The MADE with its names in rows drawn, and the fewest waits by which each read finds its letter; None without."""
    rows = random_rows(rng, list(names_in(made)), 2)
    reads = {read for conditions in all_conditions(source) for read in kept_reads(source, made, conditions)}
    duties = tuple(sorted((writer, name, d) for name, _, writer, d in reads))
    waits = waits_for(rows, duties)
    for name in names_in(made):
        more = None if waits is None else waits_to_fold(rows, waits, name, reads_by(source, made, name), max(home_of(made, name)[1], 2))
        waits = None if more is None else tuple(sorted({*waits, *more}))
        made = with_home(made, name, buffer(max(home_of(made, name)[1], 2)))
    return None if waits is None else with_waits(with_rows(made, rows), waits)


class WholeTest(unittest.TestCase):

    def check(self, source, made):
        """What is told of a MADE, beside its text and beside all WORLDS of few turns."""
        self.assertIs(is_source(source), True)
        self.assertIs(is_made(source, made), True)
        self.assertEqual(made_from(made_text(made)), made)
        self.assertEqual(source_from(source_text(source)), source)
        right, stuck = is_right(source, made), is_stuck(made[2], made[3])
        self.assertIs(right, faults(source, made) == [])
        self.assertIs(has_run(made, 3), not stuck)
        self.assertIs(is_why_right(source, made, why_right(source, made)), right)
        if stuck:
            return right
        if not right:
            world = part_world(source, made)
            self.assertEqual((is_world(source, made, world), is_part_world(source, made, world), tells_right(source, made, world)), (True, True, False))
            self.assertNotEqual(told_by_hand(source, made, world), source_told(source, world[1], world[0]))
            return right
        self.assertEqual((off_masks(source, made), too_few(source, made), is_enough_order(source, made, made[6])), ([], (), True))
        turns = 3 if len(names_in(made)) < 3 or len(made[2]) == 1 else 2
        for conditions in all_conditions(source):
            story = source_told(source, conditions, turns)
            self.assertEqual(story_from(story_text(story)), story)
            for widths in some_widths(made, 2)[:3]:
                self.assertEqual(all_told(source, made, turns, conditions, widths), {story}, (source, made))
        return right

    def test_made_plainly_and_folded(self):
        folded = seats = 0
        for rng, source in some_sources(230, 40):
            made = plain_made(source)
            self.assertIs(self.check(source, made), True)
            least = with_least_cells(source, made)
            self.assertIs(self.check(source, least), True)
            self.assertEqual(with_least_cells(source, least), least)
            self.assertIs(is_layout(source, made, least_layout(source, made)), True)
            sat = seated(source, least)
            self.assertIs(self.check(source, sat), True)
            # Without the buffers that have seats now no more units are needed.
            self.assertIsNone(widths_apart(sat, least))
            folded, seats = folded + (least != made), seats + (sat != least)
            for masks in (least_masks(source, sat), greatest_masks(source, sat)):
                self.assertIs(self.check(source, with_masks(sat, masks)), True)
            small = struck(source)
            if small[0]:
                self.assertIs(self.check(small, plain_made(small)), True)
                for conditions in all_conditions(source):
                    kept = tuple(part for part in conditions if (part,) in all_conditions(small))
                    self.assertEqual(source_told(small, kept, 4), source_told(source, conditions, 4))
        self.assertGreater(seats, 15, (folded, seats))

    def test_made_for_several_hands(self):
        made_for = changed = 0
        for rng, source in some_sources(231, 90):
            made = with_hands(rng, source, plain_made(source))
            if made is None:
                continue
            made_for += 1
            self.assertIs(self.check(source, made), True)
            fewest = with_waits(made, needed_waits(made[2], made[3]))
            self.assertIs(self.check(source, fewest), True)
            if len(made[3]) <= 6:
                kept = with_waits(made, fewest_waits(source, made))
                self.assertIs(self.check(source, kept), True)
                way = way_of_waits(source, made, kept)
                here = made
                for edit in way:
                    here = edited(source, here, edit)
                    self.assertIs(is_right(source, here), True)
                self.assertEqual(here, kept)
                # Fewer waits alone are never worse.
                self.assertIs(never_later(kept, made), True)
                self.assertIs(is_beaten(kept, made), False)
                self.assertEqual(unbeaten((made, kept)), (1,) if is_beaten(made, kept) else (0, 1))
            sat = seated(source, made)
            self.assertIs(self.check(source, sat), True)
            widths = tuple((name, rng.randint(1, 5)) for name, home in made[5] if home[0] == "cells")
            self.assertIs(self.check(source, (*made[:6], least_order(source, made, widths))), True)
            changed += sat != made
        self.assertGreater(min(made_for, changed), 15, (made_for, changed))

    def test_what_is_free_is_free(self):
        counts = {"waits": 0, "order": 0, "seats": 0, "cells": 0, "spots": 0, "swaps": 0}
        for rng, source in some_sources(232, 60):
            made = with_hands(rng, source, plain_made(source)) or plain_made(source)
            one, other = rng.choice(names_in(made)), rng.choice(names_in(made))
            if may_wait(made, one, other, 1):
                made = edited(source, made, ("put wait", one, other, 1))
            for wait in free_waits(source, made)[:1]:
                counts["waits"] += self.check(source, edited(source, made, ("drop wait", *wait)))
            for pair in free_order(source, made)[:1]:
                counts["order"] += self.check(source, edited(source, made, ("drop pair", *pair)))
            name = rng.choice(names_in(made))
            for number in seats_for(source, (*made[:6], ()), name)[:1]:
                counts["seats"] += self.check(source, edited(source, (*made[:6], ()), ("home", name, ("seat", number))))
            counts["cells"] += self.check(source, with_home(made, name, buffer(cells_for(source, made, name))))
            for hand, place in spots_for(source, made, name):
                counts["spots"] += self.check(source, edited(source, made, ("move", name, hand, place)))
            for hand, place in swaps(source, made):
                counts["swaps"] += self.check(source, edited(source, made, ("exchange", hand, place)))
        self.assertGreater(min(counts.values()), 5, counts)

    def test_moves_put_in_and_passed(self):
        put = 0
        for rng, source in some_sources(233, 70, 2):
            made = with_hands(rng, source, plain_made(source)) or plain_made(source)
            reads = [(name, read) for name, trees in made[0] for read in range(len(trees))]
            for name, read in rng.sample(reads, min(1, len(reads))):
                for place in places_for(source, made, name, read)[:2]:
                    other = put_in(source, made, name, read, "m", *place, buffer(2))
                    if not is_made(source, other):
                        continue
                    put += 1
                    self.assertIs(self.check(source, other), too_few(source, other) == ())
                    back = passed(other, "m")
                    self.assertIs(self.check(source, back), True)
                    self.assertEqual(needless_moves(source, other), ("m",))
        self.assertGreater(put, 30)

    def test_edits_and_their_way_back(self):
        counts = {True: 0, False: 0}
        for rng, source in some_sources(234, 50):
            watch = Watch(source, with_hands(rng, source, plain_made(source)) or plain_made(source))
            start, backs = watch.made, []
            for _ in range(6):
                edit = random_edit(rng, source, watch.made)
                try:
                    back = undone_by(watch.made, edit)
                    watch.do(edit)
                except MadeError:
                    continue
                backs.append(back)
                counts[self.check(source, watch.made)] += 1
            for edit in backs[::-1]:
                watch.do(edit)
            self.assertEqual(watch.made, start)
            self.assertIs(watch.right(), True)
        self.assertGreater(min(counts.values()), 20, counts)

    def test_masks_between(self):
        counts = {True: 0, False: 0}
        for rng, source in some_sources(235, 60):
            made = seated(source, plain_made(source))
            for name in names_in(made):
                if rng.random() < 0.4:
                    made = with_mask(made, name, tuple(part for part in all_conditions(source) if rng.random() < 0.7))
            right = self.check(source, made)
            counts[right] += 1
            self.assertIs(right, off_masks(source, made) == [])
        self.assertGreater(min(counts.values()), 10, counts)

    def test_a_board_and_a_desk_tell_the_same(self):
        rng = dice(236)
        for _ in range(20):
            board, lines = Board(), []
            for name in ("one", "two", "x"):
                source = even_source(rng, 3)
                board.put(name, source, plain_made(source))
                lines.append(f"plain {name} {source_text(source)}")
                names = list(names_in(board[name][1]))
                one, other = rng.choice(names), rng.choice(names)
                if one < other:
                    board.edit(name, ("put wait", one, other, 1))
                    lines.append(f"wait {name} {one} {other} 1")
            found = answers("\n".join([*lines, "names", "right", *(f"fault {name}" for name in board.names)]))
            self.assertEqual(found[:len(lines)], ["done"] * len(lines))
            faulty = [name for name in board.names if name not in board.right()]
            self.assertEqual(found[len(lines)], " ".join(board.names))
            self.assertEqual(found[len(lines) + 1], " ".join(board.right()) or "-")
            self.assertEqual([answer != "none" for answer in found[len(lines) + 2:]], [name in faulty for name in board.names])
            self.assertEqual(board.twin(), board)


if __name__ == "__main__":
    unittest.main()
