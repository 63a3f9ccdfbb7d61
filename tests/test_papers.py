"""Papers: lines and papers that are right [25], what follows of them [26], and [2]."""

import copy
import random
import unittest

from standstill.knowing import spread
from standstill.papers import right_line, right_paper
from ways import HUGE, all_sets, line_is_right, made_up_bars, paper_is_right, programs, standing, subsets

PROGRAMS = programs(51, 120, many=3, rules=5) + programs(52, 80, many=4, rules=6)

# One of two things must be in, never both; thing 2 holds up only itself.
PLAIN = (3, [("may", 0, []), ("may", 1, []), ("never", None, [("out", 0), ("out", 1)]),
             ("never", None, [("in", 0), ("in", 1)]), ("make", 2, [("in", 2)])])
LOOSE = ((2, False), ("group", [2]))


def written(plain, worlds):
    """A paper, found by trying each thing in and out where a sheet can't be spread further."""
    paper = []
    write_line(plain, worlds, paper, [])
    return paper


def write_line(plain, worlds, paper, bar):
    steps, after = steps_from(plain, worlds, paper, bar)
    if after is not None:
        thing = after.index(None)
        write_line(plain, worlds, paper, bar + [(thing, True)])
        write_line(plain, worlds, paper, bar + [(thing, False)])
        steps, after = steps_from(plain, worlds, paper, bar)
    paper.append((bar, steps))


def steps_from(plain, worlds, paper, bar):
    """The steps from a bar, and None where they come to an end, else the sheet."""
    sheet = [None] * plain[0]
    for thing, truth in bar:
        sheet[thing] = truth
    after, steps = spread(plain, [line[0] for line in paper], sheet)
    if steps and steps[-1][0] is None:
        return steps, None
    if None in after:
        return steps, after
    world = [thing for thing, entry in enumerate(after) if entry]
    number = worlds.index(world) if world in worlds else len(worlds)
    return steps + [(None, ("world", number))], None


def bent(dice, plain, paper):
    """A paper with something changed in it by chance."""
    paper = copy.deepcopy(paper)
    place = dice.randrange(len(paper))
    bar, steps = paper[place]
    spot = dice.randrange(len(steps))
    pair, why = steps[spot]
    how = dice.randrange(9)
    if how == 0:
        paper.pop(place)
    elif how == 1:
        steps.pop(spot)
    elif how == 2:
        steps.insert(spot, steps[dice.randrange(len(steps))])
    elif how == 3 and why[0] != "group":
        steps[spot] = (pair, (why[0], max(0, why[1] + dice.choice((-1, 1)))))
    elif how == 4 and pair is not None:
        steps[spot] = ((pair[0], not pair[1]), why)
    elif how == 5 and bar:
        paper[place] = (bar[1:], steps)
    elif how == 6 and bar:
        paper[place] = (bar + [dice.choice(bar)], steps)
    elif how == 7 and why[0] == "group":
        steps[spot] = (pair, ("group", dice.choice(subsets(range(plain[0])))))
    else:
        other = dice.randrange(len(paper))
        paper[place], paper[other] = paper[other], paper[place]
    return paper


class Lines(unittest.TestCase):
    def test_a_right_line(self):
        steps = [((1, False), ("rule", 3)), LOOSE, (None, ("world", 0))]
        self.assertIs(right_line(PLAIN, [[0]], [], ([(0, True)], steps)), True)
        self.assertIs(right_line(PLAIN, [[1]], [], ([(0, True)], steps)), False)
        self.assertIs(right_line(PLAIN, [], [], ([(0, True)], steps)), False)

    def test_a_thing_twice_in_the_bar(self):
        steps = [(None, ("rule", 3))]
        self.assertIs(right_line(PLAIN, [], [], ([(0, True), (1, True)], steps)), True)
        self.assertIs(right_line(PLAIN, [], [], ([(1, True), (0, True)], steps)), True)
        self.assertIs(right_line(PLAIN, [], [], ([(0, True), (1, True), (0, True)], steps)), False)
        self.assertIs(right_line(PLAIN, [], [], ([(0, False), (1, True), (0, True)], steps)), False)
        self.assertIs(right_line(PLAIN, [], [], ([(1, True), (0, True), (2, True), (2, True)], steps)), False)

    def test_no_step(self):
        self.assertIs(right_line(PLAIN, [], [], ([], [])), False)
        self.assertIs(right_line(PLAIN, [], [[]], ([(0, True)], [])), False)

    def test_one_step(self):
        self.assertIs(right_line(PLAIN, [], [], ([(2, True)], [(None, ("group", [2]))])), True)
        self.assertIs(right_line(PLAIN, [], [[]], ([], [(None, ("bar", 0))])), True)
        self.assertIs(right_line(PLAIN, [], [], ([], [(None, ("bar", 0))])), False)
        self.assertIs(right_line((0, []), [[]], [], ([], [(None, ("world", 0))])), True)

    def test_none_too_early(self):
        end = (None, ("rule", 3))
        bar = [(0, True), (1, True)]
        self.assertIs(right_line(PLAIN, [], [], (bar, [LOOSE, end])), True)
        self.assertIs(right_line(PLAIN, [], [], (bar, [end, end])), False)
        self.assertIs(right_line(PLAIN, [], [], (bar, [end, LOOSE])), False)
        self.assertIs(right_line(PLAIN, [], [], (bar, [end, LOOSE, end])), False)

    def test_no_none_at_the_end(self):
        self.assertIs(right_line(PLAIN, [], [], ([], [LOOSE])), False)
        self.assertIs(right_line(PLAIN, [], [], ([(0, True)], [LOOSE, ((1, False), ("rule", 3))])), False)

    def test_each_step_on_the_sheet_behind_those_ahead(self):
        first, second = ((1, True), ("rule", 2)), (None, ("bar", 0))
        bars = [[(0, False), (1, True)]]
        self.assertIs(right_line(PLAIN, [], bars, ([(0, False)], [first, second])), True)
        self.assertIs(right_line(PLAIN, [], bars, ([(0, False)], [second])), False)
        self.assertIs(right_line(PLAIN, [], bars, ([(0, False)], [first, first, second])), False)
        self.assertIs(right_line(PLAIN, [], bars, ([], [first, second])), False)

    def test_a_step_on_a_thing_of_the_bar(self):
        self.assertIs(right_line(PLAIN, [], [[]], ([(0, True)], [((0, True), ("bar", 0)), (None, ("bar", 0))])), False)
        self.assertIs(right_line(PLAIN, [], [[]], ([(0, True)], [((1, True), ("bar", 0)), (None, ("bar", 0))])), True)

    def test_lines_by_the_words(self):
        dice = random.Random(53)
        seen = {True: 0, False: 0}
        for plain in PROGRAMS:
            worlds = standing(plain)
            for bar in made_up_bars(dice, plain[0], 6):
                bars = made_up_bars(dice, plain[0], 3)
                sheet = [None] * plain[0]
                for thing, truth in bar:
                    sheet[thing] = truth
                steps = spread(plain, bars, sheet)[1] + [(None, ("world", 0))]
                for cut in range(len(steps) + 1):
                    told = right_line(plain, worlds, bars, (bar, steps[:cut]))
                    self.assertIs(told, line_is_right(plain, worlds, bars, (bar, steps[:cut])))
                    seen[told] += 1
        self.assertGreater(min(seen.values()), 50)


class Papers(unittest.TestCase):
    one = ([(0, True)], [((1, False), ("rule", 3)), LOOSE, (None, ("world", 0))])
    two = ([(0, False)], [((1, True), ("rule", 2)), LOOSE, (None, ("world", 1))])
    end = ([], [((0, False), ("bar", 0)), (None, ("bar", 1))])
    worlds = [[0], [1]]

    def test_a_right_paper(self):
        self.assertIs(right_paper(PLAIN, self.worlds, [self.one, self.two, self.end]), True)

    def test_no_line(self):
        self.assertIs(right_paper(PLAIN, self.worlds, []), False)
        self.assertIs(right_paper((0, []), [], []), False)

    def test_a_last_bar_that_is_not_empty(self):
        self.assertIs(right_paper(PLAIN, self.worlds, [self.one]), False)
        self.assertIs(right_paper(PLAIN, self.worlds, [self.one, self.two]), False)
        self.assertIs(right_paper(PLAIN, self.worlds, [self.one, self.two, self.end, self.one]), False)

    def test_an_empty_bar_ahead_of_the_last_line(self):
        again = ([], [(None, ("bar", 2))])
        self.assertIs(right_paper(PLAIN, self.worlds, [self.one, self.two, self.end, again]), True)
        self.assertIs(right_paper(PLAIN, self.worlds, [self.one, self.two, self.end, self.one, again]), True)

    def test_one_wrong_line_is_enough(self):
        wrong = ([(0, True)], [(None, ("rule", 3))])
        for place in range(3):
            paper = [self.one, self.two, self.end]
            paper.insert(place, wrong)
            self.assertIs(right_paper(PLAIN, self.worlds, paper), False)

    def test_the_bar_of_a_line_ahead(self):
        swapped = ([], [((0, True), ("bar", 0)), (None, ("bar", 1))])
        self.assertIs(right_paper(PLAIN, self.worlds, [self.two, self.one, swapped]), True)
        self.assertIs(right_paper(PLAIN, self.worlds, [self.two, self.one, self.end]), False)

    def test_its_own_bar_or_a_later_one(self):
        self.assertIs(right_paper(PLAIN, self.worlds, [([], [(None, ("bar", 0))])]), False)
        own = ([(0, True)], [(None, ("bar", 0))])
        self.assertIs(right_paper(PLAIN, self.worlds, [own, self.two, self.end]), False)
        later = ([(0, True)], [(None, ("bar", 1))])
        same = ([(0, True)], self.one[1])
        end = ([], [((0, False), ("bar", 0)), (None, ("bar", 2))])
        self.assertIs(right_paper(PLAIN, self.worlds, [later, same, self.two, end]), False)
        self.assertIs(right_paper(PLAIN, self.worlds, [same, ([(0, True)], [(None, ("bar", 0))]), self.two, end]), True)
        self.assertIs(right_paper(PLAIN, self.worlds, [self.end, self.one, self.two, self.end]), False)

    def test_the_worlds_are_those_listed(self):
        paper = [self.one, self.two, self.end]
        self.assertIs(right_paper(PLAIN, [[0]], paper), False)
        self.assertIs(right_paper(PLAIN, [[1], [0]], paper), False)
        self.assertIs(right_paper(PLAIN, [[0], [1], [0, 1, 2]], paper), True)

    def test_listed_ones_that_do_not_stand(self):
        self.assertIs(right_paper((1, [("make", 0, [])]), [[]], [([], [((0, True), ("rule", 0)), (None, ("world", 0))])]),
                      False)
        line = ([(0, False)], [(None, ("world", 0))])
        self.assertIs(right_paper((1, [("make", 0, [])]), [[], [0]], [line, (
            [], [((0, True), ("bar", 0)), (None, ("world", 1))])]), True)

    def test_no_things(self):
        self.assertIs(right_paper((0, []), [[]], [([], [(None, ("world", 0))])]), True)
        self.assertIs(right_paper((0, []), [], [([], [(None, ("world", 0))])]), False)
        self.assertIs(right_paper((0, [("never", None, [])]), [], [([], [(None, ("rule", 0))])]), True)

    def test_large(self):
        items = [(thing, HUGE) for thing in range(60)]
        rules = [("make", thing, [("least", thing * HUGE, items[:thing])]) for thing in range(40)]
        plain = (60, rules)
        worlds = [list(range(40))]
        self.assertIs(right_paper(plain, worlds, written(plain, worlds)), True)
        self.assertIs(right_paper(plain, [], written(plain, worlds)), False)
        self.assertIs(right_paper(plain, [list(range(39))], written(plain, worlds)), False)

    def test_many_lines(self):
        plain = (8, [("may", thing, []) for thing in range(8)])
        worlds = all_sets(8)
        paper = written(plain, worlds)
        self.assertEqual(len(paper), 511)
        self.assertIs(right_paper(plain, worlds, paper), True)
        self.assertIs(right_paper(plain, worlds[:-1], paper), False)


class WhatFollows(unittest.TestCase):
    def test_written_papers_are_right(self):
        for plain in PROGRAMS:
            worlds = standing(plain)
            paper = written(plain, worlds)
            self.assertIs(right_paper(plain, worlds, paper), True)
            self.assertIs(paper_is_right(plain, worlds, paper), True)

    def test_no_paper_without_one_of_the_worlds(self):
        for plain in PROGRAMS:
            worlds = standing(plain)
            for number in range(len(worlds)):
                fewer = worlds[:number] + worlds[number + 1:]
                self.assertIs(right_paper(plain, fewer, written(plain, fewer)), False)
                self.assertIs(right_paper(plain, fewer, written(plain, worlds)), False)

    def test_bent_papers_by_the_words_and_the_worlds_of_right_ones(self):
        dice = random.Random(54)
        seen = {True: 0, False: 0}
        for plain in PROGRAMS:
            worlds = standing(plain)
            for count in range(12):
                listed = dice.sample(worlds, dice.randrange(len(worlds) + 1)) if count % 3 == 2 else worlds
                paper = bent(dice, plain, written(plain, listed))
                told = right_paper(plain, listed, paper)
                self.assertIs(told, paper_is_right(plain, listed, paper))
                if told:
                    self.assertTrue(all(world in listed for world in worlds))
                seen[told] += 1
        self.assertGreater(min(seen.values()), 100)


class HandedInAndTold(unittest.TestCase):
    def test_what_is_handed_in_stays(self):
        for plain in PROGRAMS[:60]:
            worlds = standing(plain)
            paper = written(plain, worlds)
            bars = [line[0] for line in paper]
            kept = copy.deepcopy((plain, worlds, paper, bars))
            right_paper(plain, worlds, paper)
            for line in paper:
                right_line(plain, worlds, bars, line)
            self.assertEqual((plain, worlds, paper, bars), kept)

    def test_nothing_is_kept_from_one_call_to_the_next(self):
        plain = (1, [("may", 0, [])])
        worlds = [[0], []]
        paper = written(plain, worlds)
        self.assertIs(right_paper(plain, worlds, paper), True)
        last = paper.pop()
        self.assertIs(right_paper(plain, worlds, paper), False)
        paper.append(last)
        self.assertIs(right_paper(plain, worlds, paper), True)
        worlds.reverse()
        self.assertIs(right_paper(plain, worlds, paper), False)
        self.assertIs(right_line(plain, worlds, [], last), False)

    def test_argument_names(self):
        line = ([], [(None, ("rule", 0))])
        plain = (0, [("never", None, [])])
        self.assertIs(right_line(plain=plain, worlds=[], bars=[], line=line), True)
        self.assertIs(right_paper(plain=plain, worlds=[], paper=[line]), True)


if __name__ == "__main__":
    unittest.main()
