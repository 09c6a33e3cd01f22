"""Points 2, 10, 11 and 30 to 33: costs that rise with the time."""

import itertools
import random
import unittest

from tailpick.costs import Cost
from tailpick.errors import BadCount, BadNumber, BadSteps
from tests.brute import cost_of, some_steps
from tests.helpers import ODD_VALUES, ErrorCase

NO_NUMBERS = [value for value in ODD_VALUES if type(value) is not int]
FORTY = [(at, at + 1) for at in range(40)]


class ConstructorTest(ErrorCase):

    def test_p30_steps(self):
        for steps in [[], [(0, 1)], [(4, 1), (9, 7)], [(0, 5), (1, 6), (10 ** 40, 10 ** 50)], FORTY]:
            self.assertEqual(Cost(steps).steps, tuple(steps))

    def test_p30_too_many_tuples(self):
        self.assertEqual(len(Cost(FORTY).steps), 40)
        self.assert_error(BadCount, {"count": 41}, Cost, [*FORTY, (40, 41)])
        # The number counts ahead of what is wrong with the items.
        self.assert_error(BadCount, {"count": 50}, Cost, [None] * 50)

    def test_p2_p30_items_that_are_no_tuples_of_two(self):
        for value in [*ODD_VALUES, (), (3,), (3, 4, 5), [3, 4], {3: 4}, {3: 4, 5: 6}, "34", (3, 4, None)]:
            error = self.assert_error(BadSteps, {"value": value}, Cost, [(2, 3), value, None])
            self.assertIs(error.value, value)
            error = self.assert_error(BadSteps, {"value": value}, Cost, [value])
            self.assertIs(error.value, value)

    def test_p2_p30_times_and_costs_that_are_no_integers(self):
        for value in NO_NUMBERS:
            for item in [(value, 5), (5, value), (value, value)]:
                error = self.assert_error(BadSteps, {"value": item}, Cost, [(2, 3), item])
                self.assertIs(error.value, item)
                self.assert_error(BadSteps, {"value": item}, Cost, [item])

    def test_p30_the_edges_of_times_and_costs(self):
        self.assertEqual(Cost([(0, 1)]).steps, ((0, 1),))
        for item in [(-1, 1), (0, 0), (0, -1), (-1, 0), (-10 ** 30, 5), (5, -10 ** 30)]:
            self.assert_error(BadSteps, {"value": item}, Cost, [item])

    def test_p30_each_time_and_each_cost_is_above_the_one_before(self):
        self.assert_error(BadSteps, {"value": (6, 2)}, Cost, [(4, 2), (6, 2)])
        for item in [(4, 3), (3, 3), (0, 3), (5, 2), (5, 1), (4, 2), (5, 0)]:
            self.assert_error(BadSteps, {"value": item}, Cost, [(4, 2), item])
        self.assertEqual(len(Cost([(4, 2), (5, 3)]).steps), 2)

    def test_p11_p30_the_first_wrong_item_counts(self):
        self.assert_error(BadSteps, {"value": (3, 3)}, Cost, [(4, 2), (3, 3), (5, 1), None])
        self.assert_error(BadSteps, {"value": "x"}, Cost, ["x", (4, 2), (3, 3)])
        # A tuple is held against the one before it, not against the highest so far.
        self.assert_error(BadSteps, {"value": (1, 9)}, Cost, [(4, 2), (1, 9), (2, 10)])

    def test_p10_the_steps_are_copied_and_not_changed(self):
        steps = [(4, 1), (9, 7)]
        cost = Cost(steps)
        self.assertEqual(steps, [(4, 1), (9, 7)])
        steps[0] = (0, 6)
        steps.append((10, 8))
        self.assertEqual(cost.steps, ((4, 1), (9, 7)))

    def test_p10_a_tuple_in_place_of_a_list_and_arguments_by_name(self):
        self.assertEqual(Cost(((4, 1), (9, 7))), Cost([(4, 1), (9, 7)]))
        self.assertEqual(Cost(steps=()), Cost([]))
        self.assert_error(BadSteps, {"value": 3}, Cost, (3,))

    def test_p31_steps_is_a_property_and_a_tuple(self):
        cost = Cost([(4, 1)])
        self.assertIs(type(cost.steps), tuple)
        self.assertIs(type(cost.steps[0]), tuple)
        with self.assertRaises(AttributeError):
            cost.steps = ()


class TimesTest(ErrorCase):

    def test_example(self):
        cost = Cost([(4, 1), (9, 7)])
        self.assertEqual([cost.at(3), cost.at(4), cost.at(100), cost.latest(1), cost.latest(7)], [0, 1, 7, 8, None])

    def test_p30_p31_at(self):
        cost = Cost([(4, 1), (9, 7)])
        self.assertEqual([cost.at(time) for time in range(12)], [0] * 4 + [1] * 5 + [7] * 3)
        self.assertEqual(Cost([(0, 3)]).at(0), 3)
        self.assertEqual([Cost([]).at(0), Cost([]).at(10 ** 50)], [0, 0])
        self.assertEqual(Cost([(10 ** 50, 10 ** 60)]).at(10 ** 50), 10 ** 60)
        self.assertEqual(Cost([(10 ** 50, 10 ** 60)]).at(10 ** 50 - 1), 0)

    def test_p31_latest(self):
        cost = Cost([(4, 2), (9, 7)])
        self.assertEqual([cost.latest(bound) for bound in range(9)], [3, 3, 8, 8, 8, 8, 8, None, None])
        self.assertEqual([Cost([(0, 3)]).latest(bound) for bound in [0, 2, 3]], [-1, -1, None])
        self.assertEqual([Cost([(1, 3)]).latest(bound) for bound in [0, 2, 3]], [0, 0, None])
        self.assertEqual([Cost([(0, 3), (1, 4)]).latest(bound) for bound in [2, 3, 4]], [-1, 0, None])
        self.assertIs(Cost([]).latest(0), None)
        self.assertEqual(Cost([(5, 10 ** 60)]).latest(10 ** 60 - 1), 4)

    def test_p31_against_all_times(self):
        source = random.Random(31)
        for _ in range(300):
            steps = some_steps(source, 5, 12)
            cost = Cost(steps)
            at_times = [cost_of(steps, time) for time in range(20)]
            self.assertEqual([cost.at(time) for time in range(20)], at_times)
            for bound in range(10):
                good = [time for time in range(20) if at_times[time] <= bound]
                wanted = None if len(good) == 20 else max(good, default=-1)
                self.assertEqual(cost.latest(bound), wanted, (steps, bound))

    def test_p2_p31_values_that_are_no_integers_from_0_on(self):
        cost = Cost([(4, 1), (9, 7)])
        for value in [*NO_NUMBERS, -1, -2, -10 ** 30]:
            for call in [cost.at, cost.latest, cost.later, Cost([]).at, Cost([]).latest, Cost([]).later]:
                error = self.assert_error(BadNumber, {"value": value}, call, value)
                self.assertIs(error.value, value)

    def test_p10_by_name(self):
        cost = Cost([(4, 1), (9, 7)])
        self.assertEqual([cost.at(time=4), cost.latest(bound=0), cost.later(by=1).steps], [1, 3, ((5, 1), (10, 7))])


class EqualityTest(unittest.TestCase):

    def test_p31_equal_if_they_are_the_same_at_all_times(self):
        one = Cost([(4, 1), (9, 7)])
        self.assertTrue(one == Cost(((4, 1), (9, 7))))
        self.assertFalse(one != Cost([(4, 1), (9, 7)]))
        self.assertTrue(Cost([]) == Cost(()))
        for steps in [[], [(4, 1)], [(9, 7)], [(4, 1), (9, 8)], [(4, 1), (10, 7)], [(4, 1), (9, 7), (10, 8)]]:
            self.assertFalse(one == Cost(steps))
            self.assertTrue(one != Cost(steps))

    def test_p10_not_equal_to_values_of_other_kinds(self):
        for cost in [Cost([]), Cost([(4, 1)])]:
            for value in [*ODD_VALUES, (), cost.steps, list(cost.steps), str(cost), 0]:
                self.assertFalse(cost == value)
                self.assertFalse(value == cost)
                self.assertTrue(cost != value)


class OperatorsTest(ErrorCase):

    def test_example(self):
        cost = Cost([(4, 1), (9, 7)])
        self.assertEqual(str(cost.later(2)), "6:1 11:7")
        self.assertEqual([str(cost + Cost([(0, 2)])), str(cost | Cost.read("5:3"))], ["0:2 4:3 9:9", "4:1 5:3 9:7"])

    def test_p32_p33_against_all_times(self):
        source = random.Random(32)
        for _ in range(400):
            one, other = Cost(some_steps(source, 5, 9)), Cost(some_steps(source, 5, 9))
            by = source.randint(0, 4)
            added, greater, later = one + other, one | other, one.later(by)
            for time in range(16):
                self.assertEqual(added.at(time), one.at(time) + other.at(time))
                self.assertEqual(greater.at(time), max(one.at(time), other.at(time)))
                self.assertEqual(later.at(time), one.at(time - by) if time >= by else 0)
            self.assertEqual({type(cost) for cost in [added, greater, later]}, {Cost})

    def test_p32_with_a_cost_of_nothing(self):
        cost, nothing = Cost([(4, 1), (9, 7)]), Cost([])
        self.assertEqual([cost + nothing, nothing + cost, cost | nothing, nothing | cost], [cost] * 4)
        self.assertEqual([nothing + nothing, nothing | nothing], [nothing] * 2)
        self.assertEqual([cost | cost, cost + cost], [cost, Cost([(4, 2), (9, 14)])])

    def test_p32_tuples_that_change_nothing_are_left_out(self):
        one, other = Cost([(0, 5), (7, 9)]), Cost([(2, 3), (4, 5), (6, 9)])
        self.assertEqual((one | other).steps, ((0, 5), (6, 9)))
        self.assertEqual((other | one).steps, ((0, 5), (6, 9)))
        self.assertEqual((one + other).steps, ((0, 5), (2, 8), (4, 10), (6, 14), (7, 18)))

    def test_p32_too_many_tuples(self):
        even, odd = Cost([(2 * at, 2 * at + 1) for at in range(40)]), Cost([(2 * at + 1, 2 * at + 2) for at in range(40)])
        for one, other in itertools.permutations([even, odd]):
            self.assert_error(BadCount, {"count": 80}, lambda: one + other)
            self.assert_error(BadCount, {"count": 80}, lambda: one | other)
        self.assertEqual(len((even + even).steps), 40)
        self.assertEqual(len((even | Cost([(0, 1000)])).steps), 1)
        self.assert_error(BadCount, {"count": 41}, lambda: even + Cost([(1, 1)]))
        self.assertEqual(even | Cost([(1, 1)]), even)
        self.assert_error(BadCount, {"count": 41}, lambda: even | Cost([(1, 2)]))
        # The tuples of both are more than 40, but those of the result are not.
        high = Cost([(80 + at, 100 + at) for at in range(39)])
        self.assertEqual(len((Cost([(79, 99)]) | high).steps), 40)
        self.assertEqual(len((even | Cost([(0, 1), (3, 79), (79, 80)])).steps), 4)

    def test_p30_p32_costs_never_change(self):
        one, other = Cost([(4, 1), (9, 7)]), Cost([(5, 3)])
        before = [one.steps, other.steps]
        made = [one + other, one | other, one.later(5), one.later(0)]
        self.assertEqual([one.steps, other.steps], before)
        kept, made[0] = made[0], made[0] + one
        self.assertEqual(kept.steps, ((4, 1), (5, 4), (9, 10)))

    def test_p33_later(self):
        cost = Cost([(0, 2), (3, 4)])
        self.assertEqual(cost.later(0), cost)
        self.assertEqual(cost.later(5).steps, ((5, 2), (8, 4)))
        self.assertEqual(cost.later(10 ** 40).steps, ((10 ** 40, 2), (10 ** 40 + 3, 4)))
        self.assertEqual(Cost([]).later(7), Cost([]))
        self.assertEqual(cost.steps, ((0, 2), (3, 4)))


class InterfaceTest(unittest.TestCase):

    def test_each_method_is_defined_in_the_class(self):
        self.assertEqual(Cost.__module__, "tailpick.costs")
        for name in ["__init__", "steps", "at", "latest", "later", "read", "__add__", "__or__", "__eq__", "__str__"]:
            self.assertIn(name, vars(Cost))


if __name__ == "__main__":
    unittest.main()
