"""Points [2] to [10], as far as they speak of plants."""

import unittest

from leastguards.errors import BadMarks, BadState, BadSteps
from leastguards.plants import Plant
from leastguards.views import View
from tests.helper import (DEEP_LIST, DEEP_TUPLE, assert_refused, assert_refused_at,
                          assert_too_many, lane_of, no_integers, no_names, no_rows, plain_things,
                          rows_and_dicts, sample_plant, words_of)

STEPS = [(0, "go", 1), (0, "go", 2), (1, "up", 0), (2, "up", 3), (2, "low", 0)]


def fan_of(many, state=0):
    """Different steps that all leave one state."""
    return [(state, "go", target) for target in range(many)]


def steps_with_words(many):
    """One step from each state, each with a word of its own."""
    return [(at, word, at) for at, word in enumerate(words_of(many))]


class StartTest(unittest.TestCase):
    def test_the_first_and_the_last_state(self):
        for state in (0, 99):
            self.assertEqual(Plant(state, [(state, "go", state)], []).start, state)

    def test_other_integers_are_refused(self):
        for thing in (-1, 100, 1000, -10 ** 6000, 10 ** 6000):
            assert_refused(self, BadState, "value", thing, lambda: Plant(thing, STEPS, []))

    def test_other_kinds_are_refused(self):
        for thing in no_integers():
            assert_refused(self, BadState, "value", thing, lambda: Plant(thing, STEPS, []))

    def test_start_is_checked_before_all_else(self):
        assert_refused(self, BadState, "value", None, lambda: Plant(None, None, None, None))


class StepsTest(unittest.TestCase):
    def test_steps_that_are_no_row(self):
        for thing in no_rows():
            assert_refused_at(self, BadSteps, -1, lambda: Plant(0, thing, []))

    def test_no_steps(self):
        for thing in ([], ()):
            assert_refused_at(self, BadSteps, -1, lambda: Plant(0, thing, []))

    def test_one_step_is_enough(self):
        self.assertEqual(Plant(0, ((0, "go", 0),), ()).steps, [(0, "go", 0)])

    def test_sixty_steps_and_one_more(self):
        self.assertEqual(Plant(0, lane_of(60), []).steps, lane_of(60))
        assert_refused_at(self, BadSteps, -1, lambda: Plant(0, lane_of(61), []))
        assert_refused_at(self, BadSteps, -1, lambda: Plant(0, tuple(lane_of(61)), []))
        assert_refused_at(self, BadSteps, -1, lambda: Plant(0, [None] * 61, []))

    def test_items_of_other_kinds(self):
        for thing in ["go", 0] + plain_things() + rows_and_dicts():
            if thing is not None and isinstance(thing, tuple) and thing == (0, "go", 1):
                continue
            assert_refused_at(self, BadSteps, 1, lambda: Plant(0, [(0, "go", 0), thing], []))

    def test_a_list_is_no_step(self):
        assert_refused_at(self, BadSteps, 0, lambda: Plant(0, [[0, "go", 1]], []))

    def test_tuples_of_other_lengths(self):
        for thing in ((), (0,), (0, "go"), (0, "go", 1, 1), (0, "go", 1, "up", 2)):
            assert_refused_at(self, BadSteps, 0, lambda: Plant(0, [thing], []))

    def test_states_of_steps(self):
        self.assertEqual(Plant(0, [(0, "go", 99), (99, "go", 0)], []).states, [0, 99])
        for thing in [-1, 100, 10 ** 6000] + no_integers():
            assert_refused_at(self, BadSteps, 0, lambda: Plant(0, [(thing, "go", 1)], []))
            assert_refused_at(self, BadSteps, 1,
                              lambda: Plant(0, [(0, "go", 1), (1, "go", thing)], []))

    def test_words_of_steps(self):
        for word in ("a", "z", "abcdefghijkl"):
            self.assertEqual(Plant(0, [(0, word, 1)], []).words, [word])
        for thing in no_names():
            assert_refused_at(self, BadSteps, 1,
                              lambda: Plant(0, [(0, "go", 1), (0, thing, 1)], []))

    def test_a_step_that_stands_twice(self):
        steps = [(0, "go", 1), (1, "go", 0), (0, "go", 1), (1, "go", 0)]
        assert_refused_at(self, BadSteps, 2, lambda: Plant(0, steps, []))

    def test_steps_that_differ_in_one_item(self):
        steps = [(0, "go", 1), (0, "go", 2), (0, "up", 1), (1, "go", 1)]
        self.assertEqual(Plant(0, steps, []).steps, steps)

    def test_eight_steps_of_one_state_and_one_more(self):
        self.assertEqual(Plant(0, fan_of(8), []).steps, fan_of(8))
        assert_refused_at(self, BadSteps, 8, lambda: Plant(0, fan_of(9), []))
        assert_refused_at(self, BadSteps, 8, lambda: Plant(0, fan_of(11), []))

    def test_the_ninth_step_of_one_state_among_others(self):
        mixed = fan_of(8, 5) + fan_of(8, 6) + [(7, "up", 5), (6, "up", 6), (5, "up", 5)]
        self.assertEqual(Plant(0, mixed[:17], []).steps, mixed[:17])
        assert_refused_at(self, BadSteps, 17, lambda: Plant(0, mixed, []))
        arriving = [(state, "go", 0) for state in range(12)]
        self.assertEqual(Plant(0, arriving, []).steps, arriving)

    def test_the_first_wrong_item_is_reported(self):
        twice = (0, "go", 0)
        assert_refused_at(self, BadSteps, 1, lambda: Plant(0, [twice, twice, None], []))
        assert_refused_at(self, BadSteps, 1, lambda: Plant(0, [twice, None, twice], []))
        assert_refused_at(self, BadSteps, 8, lambda: Plant(0, fan_of(9) + [None], []))
        assert_refused_at(self, BadSteps, 8, lambda: Plant(0, fan_of(8) + [None, (0, "up", 0)], []))

    def test_the_example_of_the_interface(self):
        assert_refused_at(self, BadSteps, 1, lambda: Plant(0, [(0, "go", 1), (1, "up", True)], [0]))

    def test_steps_are_checked_before_the_count_of_words(self):
        steps = steps_with_words(13) + [None]
        assert_refused_at(self, BadSteps, 13, lambda: Plant(0, steps, None, None))


class WordsTest(unittest.TestCase):
    def test_twelve_words_and_one_more(self):
        self.assertEqual(Plant(0, steps_with_words(12), []).words, words_of(12))
        assert_too_many(self, 12, lambda: Plant(0, steps_with_words(13), []))
        assert_too_many(self, 12, lambda: Plant(0, steps_with_words(60), []))

    def test_a_word_of_several_steps_counts_once(self):
        steps = steps_with_words(12) + [(20, "aa", 21), (21, "ab", 21)]
        self.assertEqual(Plant(0, steps, []).words, words_of(12))

    def test_words_are_counted_before_the_marks_are_checked(self):
        assert_too_many(self, 12, lambda: Plant(0, steps_with_words(13), None, None))


class WantedAndBarredTest(unittest.TestCase):
    def check_both(self, things, attribute_of):
        """Each thing is refused as wanted and as barred."""
        for thing in things:
            told = attribute_of(thing)
            assert_refused(self, BadMarks, "value", told, lambda: Plant(0, STEPS, thing))
            assert_refused(self, BadMarks, "value", told, lambda: Plant(0, STEPS, [], thing))

    def test_marks_that_are_no_row(self):
        self.check_both(no_rows(), lambda thing: thing)

    def test_items_that_are_no_numbers_of_steps(self):
        things = [-1, 5, 60, 10 ** 6000] + no_integers()
        self.check_both([[0, thing, None] for thing in things], lambda row: row[1])
        self.check_both([(0, thing) for thing in things], lambda row: row[1])

    def test_the_first_and_the_last_number(self):
        plant = Plant(0, STEPS, [4], [0])
        self.assertEqual((plant.wanted, plant.barred), ([4], [0]))

    def test_items_that_stand_twice(self):
        big = [(state, "go", 0) for state in range(60)]
        again = 1
        self.check_both([[1, 2, again, 9]], lambda row: again)
        assert_refused(self, BadMarks, "value", 59, lambda: Plant(0, big, [59, 3, 59, 3]))

    def test_barred_items_that_are_wanted(self):
        assert_refused(self, BadMarks, "value", 2, lambda: Plant(0, STEPS, [1, 2, 4], [0, 2, 1]))

    def test_wanted_is_checked_before_barred(self):
        wrong = [None]
        assert_refused(self, BadMarks, "value", None, lambda: Plant(0, STEPS, wrong, [-1]))
        assert_refused(self, BadMarks, "value", -1, lambda: Plant(0, STEPS, [0, 1, -1], None))
        assert_refused(self, BadMarks, "value", 1, lambda: Plant(0, STEPS, [1, 1], [7]))

    def test_marks_may_be_empty_or_overlap_nothing(self):
        plant = Plant(0, STEPS, (), ())
        self.assertEqual((plant.wanted, plant.barred), ([], []))
        plant = Plant(0, STEPS, [2])
        self.assertEqual((plant.wanted, plant.barred), ([2], []))

    def test_all_may_be_wanted_or_barred(self):
        self.assertEqual(Plant(0, STEPS, [4, 3, 2, 1, 0]).wanted, [0, 1, 2, 3, 4])
        self.assertEqual(Plant(0, STEPS, [], [4, 3, 2, 1, 0]).barred, [0, 1, 2, 3, 4])


class PropertiesTest(unittest.TestCase):
    def test_the_example_of_the_interface(self):
        plant = sample_plant()
        self.assertEqual(plant.start, 0)
        self.assertEqual(plant.steps, STEPS)
        self.assertEqual(plant.words, ["go", "low", "up"])
        self.assertEqual(plant.wanted, [0, 1, 2, 4])
        self.assertEqual(plant.barred, [3])
        self.assertEqual(plant.states, [0, 1, 2, 3])

    def test_arguments_by_name(self):
        plant = Plant(barred=[3], wanted=[0, 1, 2, 4], steps=STEPS, start=0)
        self.assertEqual(plant, sample_plant())

    def test_arguments_may_be_tuples(self):
        self.assertEqual(Plant(0, tuple(STEPS), (4, 2, 1, 0), (3,)), sample_plant())

    def test_steps_keep_their_order(self):
        steps = [(9, "up", 1), (3, "go", 2), (3, "go", 1), (0, "zoo", 0)]
        self.assertEqual(Plant(3, steps, []).steps, steps)

    def test_words_of_steps_that_are_never_reached_count(self):
        self.assertEqual(Plant(0, [(5, "up", 6), (6, "go", 5)], []).words, ["go", "up"])

    def test_marks_are_ascending(self):
        plant = Plant(0, STEPS, [4, 0, 2], [3, 1])
        self.assertEqual((plant.wanted, plant.barred), ([0, 2, 4], [1, 3]))

    def test_states_are_reached_by_any_steps(self):
        steps = [(7, "go", 3), (3, "go", 50), (50, "up", 7), (50, "up", 99), (8, "go", 7),
                 (8, "go", 9), (3, "up", 0)]
        self.assertEqual(Plant(7, steps, [], [1]).states, [0, 3, 7, 50, 99])
        self.assertEqual(Plant(99, steps, []).states, [99])
        self.assertEqual(Plant(60, steps, []).states, [60])
        self.assertEqual(Plant(8, steps, [0]).states, [0, 3, 7, 8, 9, 50, 99])

    def test_states_of_a_long_lane_against_its_order(self):
        steps = [(60 - at, "go", 59 - at) for at in range(60)]
        self.assertEqual(Plant(60, steps, []).states, list(range(61)))
        self.assertEqual(Plant(60, steps[::-1], []).states, list(range(61)))

    def test_kinds_of_the_properties(self):
        plant = Plant(0, tuple(STEPS), (0,), (3,))
        self.assertIs(type(plant.start), int)
        for told in (plant.steps, plant.words, plant.wanted, plant.barred, plant.states):
            self.assertIs(type(told), list)
        for step in plant.steps:
            self.assertIs(type(step), tuple)


class OwnershipTest(unittest.TestCase):
    def test_told_lists_are_new(self):
        plant = sample_plant()
        for name in ("steps", "words", "wanted", "barred", "states"):
            told = getattr(plant, name)
            before = list(told)
            told.clear()
            self.assertEqual(getattr(plant, name), before, name)
            self.assertIsNot(getattr(plant, name), getattr(plant, name))
        self.assertEqual(plant, sample_plant())
        self.assertEqual(plant.giving_up([0]).wanted, [1, 2, 4])

    def test_later_changes_of_the_arguments(self):
        steps, wanted, barred = list(STEPS), [0, 1, 2, 4], [3]
        plant = Plant(0, steps, wanted, barred)
        steps[0] = (0, "other", 9)
        wanted.clear()
        barred.append(0)
        self.assertEqual(plant, sample_plant())
        self.assertEqual(plant.words, ["go", "low", "up"])
        self.assertEqual(plant.states, [0, 1, 2, 3])

    def test_arguments_are_not_changed(self):
        steps, wanted, barred, gone = list(STEPS), [4, 2, 1, 0], [3], [2, 0]
        Plant(0, steps, wanted, barred).giving_up(gone)
        self.assertEqual(steps, STEPS)
        self.assertEqual((wanted, barred, gone), ([4, 2, 1, 0], [3], [2, 0]))

    def test_refused_arguments_are_not_changed(self):
        steps, wanted = [(0, "go", 1), None], [1, 1]
        with self.assertRaises(BadSteps):
            Plant(0, steps, wanted)
        with self.assertRaises(BadMarks):
            Plant(0, STEPS, wanted)
        self.assertEqual((steps, wanted), ([(0, "go", 1), None], [1, 1]))


class EqualityTest(unittest.TestCase):
    def test_equal_plants(self):
        self.assertTrue(sample_plant() == sample_plant())
        self.assertFalse(sample_plant() != sample_plant())
        self.assertTrue(Plant(0, STEPS, [1, 0], [3, 2]) == Plant(0, tuple(STEPS), (0, 1), (2, 3)))

    def test_each_part_counts(self):
        plant = Plant(0, STEPS, [0, 1], [3])
        others = [Plant(1, STEPS, [0, 1], [3]), Plant(0, STEPS[:4], [0, 1], [3]),
                  Plant(0, [STEPS[1], STEPS[0]] + STEPS[2:], [0, 1], [3]),
                  Plant(0, STEPS, [0], [3]), Plant(0, STEPS, [0, 2], [3]),
                  Plant(0, STEPS, [0, 1], [4]), Plant(0, STEPS, [0, 1])]
        for other in others:
            self.assertIs(plant == other, False)
            self.assertIs(other == plant, False)
            self.assertIs(plant != other, True)

    def test_any_other_object_is_not_equal(self):
        plant = sample_plant()
        things = ["go", 0] + plain_things() + rows_and_dicts()
        for thing in things + [View(), STEPS, (0, STEPS, [0, 1, 2, 4], [3])]:
            if isinstance(thing, Plant):
                continue
            self.assertIs(plant == thing, False)
            self.assertIs(plant != thing, True)
            self.assertIs(thing == plant, False)

    def test_an_object_that_calls_itself_equal_to_all_is_not_equal(self):
        class Friend:
            def __eq__(self, other):
                return True

        self.assertIs(sample_plant() == Friend(), False)

    def test_plants_have_no_order(self):
        for compare in (lambda a, b: a < b, lambda a, b: a <= b,
                        lambda a, b: a > b, lambda a, b: a >= b):
            with self.assertRaises(TypeError):
                compare(sample_plant(), sample_plant())


class GivingUpTest(unittest.TestCase):
    def test_the_example_of_the_interface(self):
        self.assertEqual(sample_plant().giving_up([2]).wanted, [0, 1, 4])

    def test_all_else_stays(self):
        plant = sample_plant()
        given = plant.giving_up((4, 0))
        self.assertEqual(given, Plant(0, STEPS, [1, 2], [3]))
        self.assertIs(type(given), Plant)
        self.assertEqual(plant, sample_plant())

    def test_nothing_and_all_given_up(self):
        plant = sample_plant()
        same = plant.giving_up([])
        self.assertEqual(same, plant)
        self.assertIsNot(same, plant)
        self.assertEqual(plant.giving_up([4, 2, 1, 0]), Plant(0, STEPS, [], [3]))

    def test_giving_up_twice(self):
        plant = sample_plant().giving_up([2])
        self.assertEqual(plant.giving_up([0]).wanted, [1, 4])
        assert_refused(self, BadMarks, "value", 2, lambda: plant.giving_up([2]))

    def test_numbers_that_are_no_row(self):
        for thing in no_rows():
            assert_refused(self, BadMarks, "value", thing, lambda: sample_plant().giving_up(thing))

    def test_items_that_are_no_wanted_steps(self):
        for thing in [3, 5, -1, 10 ** 6000] + no_integers():
            row = [1, thing, None]
            assert_refused(self, BadMarks, "value", thing, lambda: sample_plant().giving_up(row))

    def test_a_step_that_is_neither_wanted_nor_barred(self):
        plant = Plant(0, STEPS, [0, 2])
        assert_refused(self, BadMarks, "value", 1, lambda: plant.giving_up([0, 1]))

    def test_items_that_stand_twice(self):
        assert_refused(self, BadMarks, "value", 4, lambda: sample_plant().giving_up([4, 1, 4, 3]))

    def test_an_error_does_not_change_the_plant(self):
        plant = sample_plant()
        for row in ([0, 3], [0, 0], None, [DEEP_LIST], [DEEP_TUPLE]):
            with self.assertRaises(BadMarks):
                plant.giving_up(row)
        self.assertEqual(plant, sample_plant())


if __name__ == "__main__":
    unittest.main()
