"""Points [38], [39] and [41]: papers."""

import unittest

from leastguards.forced import beyond, breach, forced, is_forced
from leastguards.plants import Plant
from leastguards.views import View, seeing
from tests.helper import (DEEP_LIST, DEEP_TUPLE, all_things, deep_tuple, far_plant, no_integers,
                          sample_plant, sample_view, wide_plant)
from tests.slow import (cases, forced_runs_up_to, is_good_paper, is_good_reason, make_plant,
                        make_views, runs_up_to, wanted_runs_up_to)

PAPER = ((1, 3), ((None,), ((0, 2),)))
# A wanted run with the sights g, u, g and then a step up.
LONG = (0, 2, 0, 2)


def is_right(thing, plant=None, views=None):
    """What is_forced tells, for the plant and the view of the examples if none is given."""
    return is_forced(plant or sample_plant(), views or [sample_view()], thing)


class RightPaperTest(unittest.TestCase):
    def test_the_example_of_the_interface(self):
        self.assertIs(is_right(PAPER), True)

    def test_the_paper_of_the_empty_run(self):
        for views in ([View()], [View({}, ["go"]), sample_view()], [sample_view()] * 3):
            self.assertIs(is_right(((), ()), None, views), True)

    def test_reasons_of_any_length(self):
        # By the unseen step low the plant comes back to 0, and goes on with another g.
        plant = Plant(0, [(0, "go", 1), (1, "low", 0), (1, "up", 2), (0, "up", 3)], [0, 1, 2], [3])
        view = View({"go": "g"}, ["up"])
        self.assertIs(is_right(((0, 2), ((None,), ((0, 2),))), plant, [view]), True)
        view = View({}, ["up"])
        for reason in ((0, 2), (0, 1, 0, 2), (0, 1, 0, 1, 0, 2), (0,) + (1, 0) * 500 + (2,)):
            self.assertIs(is_right(((3,), ((reason,),)), plant, [view]), True)

    def test_papers_of_wanted_runs(self):
        self.assertIs(is_right(((0,), ((None,),))), True)
        self.assertIs(is_right(((0, 2, 1), ((None,), ((0, 2),), (None,)))), True)

    def test_one_part_for_each_view(self):
        views = [sample_view(), View({"go": "a"}, ["go", "up"])]
        paper = ((1, 3), ((None, (0,)), ((0, 2), (0, 2))))
        self.assertIs(is_right(paper, None, views), True)
        paper = ((1, 3), ((None, (1,)), ((0, 2), (1, 4, 0, 2))))
        self.assertIs(is_right(paper, None, views), False)
        self.assertIs(is_right(paper, None, [views[0], View({"low": "a"}, ["go", "up"])]), False)
        self.assertIs(is_right(paper, None, [views[0], View({}, ["go", "up"])]), True)

    def test_the_same_view_several_times(self):
        reason = (0, 2)
        paper = ((1, 3), ((None,) * 3, (reason,) * 3))
        self.assertIs(is_right(paper, None, [sample_view()] * 3), True)
        self.assertIs(is_right(paper, None, (sample_view(),) * 3), True)


class WrongPaperTest(unittest.TestCase):
    def test_lists_in_place_of_tuples(self):
        for thing in ([(1, 3), ((None,), ((0, 2),))], ([1, 3], ((None,), ((0, 2),))),
                      ((1, 3), [(None,), ((0, 2),)]), ((1, 3), ([None], ((0, 2),))),
                      ((1, 3), ((None,), [(0, 2)])), ((1, 3), ((None,), ([0, 2],))),
                      ([], ()), ((), []), [(), ()]):
            self.assertIs(is_right(thing), False, thing)

    def test_other_lengths(self):
        for thing in ((), ((),), ((), (), ()), PAPER + ((),), ((1, 3),), ((1, 3), ()),
                      ((1, 3), ((None,),)), ((1, 3), ((None,), ((0, 2),), (None,))),
                      ((1, 3), ((), ((0, 2),))), ((1, 3), ((None,), ())),
                      ((1, 3), ((None, None), ((0, 2), (0, 2)))), ((), ((),)), ((), (None,))):
            self.assertIs(is_right(thing), False, thing)

    def test_runs_that_are_none(self):
        for run in ((3,), (3, 3), (1, 2), (5,), (-4, 3), (True, 3), (1, 3, 0), (1.0, 3), ("1", 3)):
            reasons = ((None,), ((0, 2),), (None,))[:len(run)]
            self.assertIs(is_right((run, reasons)), False, run)

    def test_runs_that_are_not_forced(self):
        plant = Plant(0, [(0, "go", 1), (1, "up", 0), (0, "up", 1)], [0, 1], [2])
        for reason in ((0, 1), (1,), (2,), (0, 2), (), None):
            self.assertIs(is_right(((2,), ((reason,),)), plant, [seeing(["go"], ["up"])]), False)

    def test_none_in_place_of_a_reason(self):
        self.assertIs(is_right(((1, 3), ((None,), (None,)))), False)
        self.assertIs(is_right(((1, 3), (((1,),), ((0, 2),)))), False)

    def test_a_reason_for_a_word_that_cannot_be_held(self):
        for thing in ((0,), (1,), (), 0, False, "", [], DEEP_TUPLE):
            self.assertIs(is_right(((1, 3), ((thing,), ((0, 2),)))), False)

    def test_reasons_with_other_sights(self):
        # The run before the step 3 has the sight g.
        for reason in ((0, 2, 0, 2), (1, 4, 0, 2), (0, 2, 1, 4, 0, 2)):
            self.assertIs(is_right(((1, 3), ((None,), (reason,)))), False)
        self.assertIs(is_right(((0, 2, 1, 3), ((None,), ((0, 2),), (None,), (LONG,)))), True)
        self.assertIs(is_right(((0, 2, 1, 3), ((None,), (LONG,), (None,), (LONG,)))), False)
        self.assertIs(is_right(((0, 2, 1, 3), ((None,), ((0, 2),), (None,), ((0, 2),)))), False)

    def test_the_order_of_sights_counts(self):
        steps = [(0, "go", 0), (0, "low", 0), (0, "up", 1), (0, "hop", 2), (2, "low", 2),
                 (2, "go", 3), (3, "up", 1)]
        plant = Plant(0, steps, [0, 1, 2], [6])
        views = [View({"go": "g", "low": "l"}, ["up"])]
        run = (3, 4, 5, 6)
        for reason, right in (((1, 0, 2), True), ((0, 1, 2), False), ((0, 0, 2), False),
                              ((1, 2), False), ((1, 0, 1, 2), False), ((1, 1, 2), False)):
            reasons = ((None,), (None,), (None,), (reason,))
            self.assertIs(is_right((run, reasons), plant, views), right, reason)

    def test_the_last_step_of_a_reason_may_be_seen_as_another(self):
        # Only the sights before the last step are compared.
        plant = Plant(0, [(0, "up", 1), (1, "up", 1)], [0, 1])
        views = [View({"up": "u"}, ["up"])]
        self.assertIs(is_right(((0, 1), (((0,),), ((0, 1),))), plant, views), True)
        self.assertIs(is_right(((0, 1), (((0,),), ((0,),))), plant, views), False)
        self.assertIs(is_right(((0, 1), (((0, 1),), ((0, 1),))), plant, views), False)

    def test_reasons_that_are_not_wanted(self):
        self.assertIs(is_right(((1, 3), ((None,), ((1, 3),)))), False)
        plant = sample_plant().giving_up([0])
        self.assertIs(is_right(PAPER, plant), False)
        self.assertIs(is_right(PAPER, sample_plant().giving_up([2])), False)
        self.assertIs(is_right(PAPER, sample_plant().giving_up([1])), True)

    def test_reasons_with_another_last_word(self):
        for reason in ((0,), (1,), (1, 4), (0, 2, 0), ()):
            self.assertIs(is_right(((1, 3), ((None,), (reason,)))), False)
        self.assertIs(is_right(((), (((0, 2),),))), False)

    def test_reasons_that_are_no_runs(self):
        for reason in ((2,), (0, 3), (1, 2), (0, 2.0), (0, 2, 2), (0, -3), (False, 2), (0, 5),
                       (10 ** 6000, 2), ("0", 2), (None, 2), (0, (2,)), (0, DEEP_TUPLE)):
            self.assertIs(is_right(((1, 3), ((None,), (reason,)))), False)

    def test_each_part_is_looked_at(self):
        views = [sample_view()] * 3
        good, bad = (0, 2), (0, 2, 0, 2)
        for at in range(3):
            parts = tuple(bad if at == other else good for other in range(3))
            self.assertIs(is_right(((1, 3), ((None,) * 3, parts)), None, views), False)

    def test_things_of_all_kinds(self):
        for thing in all_things():
            papers = [thing, (thing, ((None,), ((0, 2),))), ((1, 3), thing),
                      ((1, 3), (thing, ((0, 2),))), ((1, 3), ((None,), thing)),
                      ((1, 3), ((None,), (thing,)))]
            if thing is not None:
                papers.append(((1, 3), ((thing,), ((0, 2),))))
            for paper in papers:
                self.assertIs(is_right(paper), False)
        for thing in no_integers():
            self.assertIs(is_right(((1, thing), ((None,), ((0, 2),)))), False)
            self.assertIs(is_right(((1, 3), ((None,), ((0, thing),)))), False)

    def test_nested_deep(self):
        for thing in (DEEP_TUPLE, DEEP_LIST, (DEEP_TUPLE, DEEP_TUPLE), ((), DEEP_TUPLE),
                      (DEEP_TUPLE, ()), ((1, 3), (DEEP_TUPLE, DEEP_TUPLE)), deep_tuple(2),
                      ((0,), ((DEEP_LIST,),)), ((DEEP_LIST,), ((None,),))):
            self.assertIs(is_right(thing), False)

    def test_against_the_words_of_the_document(self):
        # Each run of a plant with each row of short reasons.
        right = 0
        for source in cases(40, 30):
            plant, views = make_plant(source), make_views(source, 1)
            reasons = [None] + runs_up_to(plant, 3)[:12]
            for run in runs_up_to(plant, 2):
                for at in range(len(reasons) ** len(run)):
                    parts = ((reasons[at % len(reasons)],), (reasons[at // len(reasons)],))
                    paper = (run, parts[:len(run)])
                    good = is_good_paper(plant, views, *paper)
                    self.assertIs(is_right(paper, plant, views), good, paper)
                    right += good
        self.assertGreater(right, 100)


class ToldPaperTest(unittest.TestCase):
    def test_told_papers_are_right(self):
        for source in cases(150, 31):
            plant, views = make_plant(source, 4, 9), make_views(source)
            papers = [forced(plant, views, number) for number in range(len(plant.steps))]
            papers += [breach(plant, views), beyond(plant, views)]
            for paper in papers:
                if paper is not None:
                    self.assertIs(is_right(paper, plant, views), True)
                    self.assertTrue(is_good_paper(plant, views, *paper))
                    self.assertEqual(kinds_of(paper), kinds_of((paper[0], paper[1])))

    def test_reasons_are_as_short_as_can_be(self):
        looked = 0
        for source in cases(80, 32):
            plant, views = make_plant(source, 4, 9), make_views(source)
            wanted = wanted_runs_up_to(plant, 5)
            for number in range(len(plant.steps)):
                run, reasons = forced(plant, views, number) or ((), ())
                for at, item in enumerate(reasons):
                    word = plant.steps[run[at]][1]
                    for view, part in zip(views, item):
                        good = [len(reason) for reason in wanted
                                if is_good_reason(plant, view, run[:at], word, reason)]
                        if part is not None and good:
                            self.assertEqual(len(part), min(good))
                            looked += len(part) > 1
        self.assertGreater(looked, 20)

    def test_a_longer_way_by_unseen_steps_is_not_taken(self):
        steps = [(0, "low", 1), (1, "low", 2), (2, "go", 3), (3, "up", 4), (0, "go", 5),
                 (5, "low", 6), (6, "up", 4), (0, "hop", 7), (7, "go", 8), (8, "up", 9)]
        plant = Plant(0, steps, [0, 1, 2, 3, 4, 5, 6], [9])
        self.assertEqual(breach(plant, [View({"go": "g"}, ["up"])]),
                         ((7, 8, 9), ((None,), (None,), ((4, 5, 6),))))
        plant = plant.giving_up([5])
        self.assertEqual(breach(plant, [View({"go": "g"}, ["up"])]),
                         ((7, 8, 9), ((None,), (None,), ((0, 1, 2, 3),))))

    def test_a_long_paper(self):
        plant, views = far_plant()
        views = [View(view.sights, ["up", "mid", "in"]) for view in views]
        paper = breach(plant, views)
        self.assertEqual([len(part) for part in paper[1][-1]], [1681, 1681])
        self.assertEqual([len(part) for part in paper[1][1000]], [1001, 1001])
        self.assertIs(is_right(paper, plant, views), True)
        self.assertIs(is_right((paper[0], paper[1][:-1] + (paper[1][-2],)), plant, views), False)

    def test_no_limit(self):
        plant, view = wide_plant(20, [31]), seeing(["go"], ["hop"])
        self.assertIs(is_right(((31,), ((None,),)), plant, [seeing(["go"])]), True)
        self.assertIs(is_right(((31,), (((31,),),)), plant, [view]), False)
        run = (0,) + tuple(1 + at % 5 for at in range(20000))
        self.assertIs(is_right((run, ((None,),) * 20001), plant, [view]), True)

    def test_forced_runs_have_papers_and_others_have_none(self):
        for source in cases(30, 33):
            plant, views = make_plant(source), make_views(source, 2)
            runs = forced_runs_up_to(plant, views, 3)
            for number in range(len(plant.steps)):
                paper = forced(plant, views, number)
                if paper is not None and len(paper[0]) <= 3:
                    self.assertIn(paper[0], runs)


def kinds_of(paper):
    """The paper with all rows in it made anew as tuples."""
    run, reasons = paper
    return (tuple(run), tuple(tuple(None if part is None else tuple(part) for part in item)
                              for item in reasons))


if __name__ == "__main__":
    unittest.main()
