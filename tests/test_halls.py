"""Points 28 and 29: halls within halls; points 2, 3 and 9 where they touch these."""

import inspect
import itertools
import unittest

from shoutline.errors import NoHall, NoHand, NoHands
from shoutline.halls import Hall, Hand, Part
from shoutline.turns import turns
from tests.helper import NOT_ON_LINE, SIXTY_ONE_FIGURES, all_sets, assert_refused


# A hall of hands alone, named by their numbers.
def hall_of(number, width, hands):
    return Hall(number, width, [Hand(hand, f"{number}/{hand}") for hand in hands])


# A hall so many halls deep, around the parts of the innermost one.
def deep(halls, parts):
    part = Hall(0, 3, parts)
    for number in range(1, halls):
        part = Hall(number, 3, [part])
    return part


class TheInterface(unittest.TestCase):
    def test_the_arguments(self):
        self.assertEqual(str(inspect.signature(Hand)), "(number, name)")
        self.assertEqual(str(inspect.signature(Hall)), "(number, width, parts)")
        for kind in (Part, Hand, Hall):
            self.assertEqual(str(inspect.signature(kind.time)), "(self)")
            self.assertEqual(str(inspect.signature(kind.names)), "(self)")
            self.assertEqual(str(inspect.signature(kind.call)), "(self, name)")

    def test_hands_and_halls_are_parts(self):
        self.assertTrue(issubclass(Hand, Part))
        self.assertTrue(issubclass(Hall, Part))
        self.assertFalse(issubclass(Hand, Hall))
        self.assertFalse(issubclass(Hall, Hand))

    def test_the_number(self):
        for number in (0, 1, 7, 2**200, SIXTY_ONE_FIGURES):
            self.assertEqual(Hand(number, "ann").number, number)
            self.assertEqual(Hall(number, 0, []).number, number)
            self.assertEqual(Hall(number, 3, [Hand(5, "ann")]).number, number)

    def test_the_kinds_of_the_answers(self):
        for part in (Hand(3, "ann"), Hall(3, 2, [Hall(0, 1, [Hand(1, "ann"), Hand(0, "bob")])])):
            self.assertIs(type(part.number), int)
            self.assertIs(type(part.time()), int)
            self.assertIs(type(part.names()), list)
            self.assertEqual({type(name) for name in part.names()}, {str})
            self.assertIs(type(part.call("ann")), list)
            self.assertEqual([number for number in part.call("ann") if type(number) is not int], [])
        self.assertIs(type(Hall(0, 0, []).names()), list)


class OfHands(unittest.TestCase):
    def test_the_time(self):
        for number in (0, 5, SIXTY_ONE_FIGURES):
            self.assertEqual(Hand(number, "ann").time(), 0)

    def test_the_names(self):
        for name in ("ann", "", "a b", "0", "Ann\tof\nhere"):
            self.assertEqual(Hand(5, name).names(), [name])

    def test_the_call(self):
        for name in ("ann", "", "a b", "0", "Ann\tof\nhere"):
            self.assertEqual(Hand(5, name).call(name), [])

    def test_no_hand_for_another_name(self):
        others = (("ann", "bob"), ("ann", "Ann"), ("ann", ""), ("ann", "ann "), ("", "ann"), ("", " "), ("5", "05"))
        for name, other in others:
            assert_refused(self, NoHand, Hand(5, name).call, other)
            self.assertEqual(Hand(5, name).call(name), [])


class OfOneHall(unittest.TestCase):
    def test_without_parts(self):
        for width in (0, 1, 3, 200):
            hall = Hall(4, width, [])
            self.assertEqual(hall.time(), 1)
            self.assertEqual(hall.names(), [])
            for name in ("", "ann", "4"):
                assert_refused(self, NoHand, hall.call, name)

    def test_of_one_hand(self):
        for number, width in ((0, 0), (1, 1), (5, 3), (2**200 - 1, 200)):
            hall = Hall(4, width, [Hand(number, "ann")])
            self.assertEqual(hall.time(), 1)
            self.assertEqual(hall.names(), ["ann"])
            self.assertEqual(hall.call("ann"), [number])

    def test_of_several_hands_in_every_order(self):
        hands = [Hand(6, "ann"), Hand(1, "cid"), Hand(4, "bob")]
        for order in itertools.permutations(hands):
            hall = Hall(0, 3, list(order))
            self.assertEqual(hall.time(), 5)
            self.assertEqual(hall.names(), ["cid", "bob", "ann"])
            self.assertEqual([hall.call(name) for name in ("ann", "bob", "cid")], [[6], [4], [1]])
            for name in ("", "dan", "Ann", "0", "6", "ann "):
                assert_refused(self, NoHand, hall.call, name)

    def test_the_names_go_by_the_numbers_and_not_by_figures(self):
        hall = Hall(0, 7, [Hand(100, "a"), Hand(9, "b"), Hand(10, "c"), Hand(0, "d")])
        self.assertEqual(hall.names(), ["d", "b", "c", "a"])

    def test_the_time_is_the_turns_of_the_talk(self):
        for width in range(4):
            for hands in all_sets(width):
                for more in (0, 2):
                    hall = hall_of(9, width + more, hands[::-1])
                    self.assertEqual(hall.time(), turns(hands, width + more))
                    self.assertEqual(hall.names(), [f"9/{hand}" for hand in hands])

    def test_great_numbers(self):
        great = 2**200 - 1
        hall = Hall(SIXTY_ONE_FIGURES, 200, [Hand(great, "b"), Hand(great - 1, "a")])
        self.assertEqual(hall.time(), 401)
        self.assertEqual(hall.call("b"), [great])

    def test_a_hundred_and_twenty_hands(self):
        hall = hall_of(0, 8, range(119, -1, -1))
        self.assertEqual(hall.time(), turns(list(range(120)), 8))
        self.assertEqual(hall.names(), [f"0/{hand}" for hand in range(120)])


class OfHallsWithinHalls(unittest.TestCase):
    def setUp(self):
        self.fast = Hall(2, 1, [Hand(1, "ann")])
        self.slow = Hall(5, 3, [Hand(7, "cid"), Hand(6, "bob")])
        self.parts = [self.slow, Hand(3, "eve"), self.fast]
        self.hall = Hall(1, 3, self.parts)

    def test_the_time_is_the_greatest_and_the_own_talk(self):
        self.assertEqual(self.fast.time(), 1)
        self.assertEqual(self.slow.time(), 7)
        self.assertEqual(turns([5, 3, 2], 3), 7)
        self.assertEqual(self.hall.time(), 7 + 7)
        self.assertEqual(Hall(0, 3, [self.fast]).time(), 1 + 1)
        self.assertEqual(Hall(0, 3, [self.fast, Hand(7, "eve")]).time(), 1 + 3)
        self.assertEqual(Hall(0, 3, [self.slow]).time(), 7 + 1)
        self.assertEqual(Hall(0, 1, [self.hall]).time(), 14 + 1)
        self.assertEqual(Hall(0, 1, [self.hall, Hall(0, 0, [])]).time(), 14 + 3)

    def test_halls_without_parts_take_their_turn(self):
        self.assertEqual(Hall(0, 1, [Hall(0, 0, [])]).time(), 1 + 1)
        self.assertEqual(Hall(0, 1, [Hall(0, 0, []), Hall(1, 0, [])]).time(), 1 + 3)
        self.assertEqual(Hall(0, 1, [Hall(0, 0, []), Hall(1, 0, [])]).names(), [])

    def test_the_names(self):
        wanted = ["ann", "eve", "bob", "cid"]
        self.assertEqual(self.hall.names(), wanted)
        for order in itertools.permutations(self.parts):
            self.assertEqual(Hall(1, 3, list(order)).names(), wanted)
            self.assertEqual(Hall(1, 3, list(order)).time(), 14)

    def test_the_calls(self):
        calls = {"ann": [2, 1], "eve": [3], "bob": [5, 6], "cid": [5, 7]}
        for name, call in calls.items():
            self.assertEqual(self.hall.call(name), call)
            self.assertEqual(Hall(0, 1, [self.hall]).call(name), [1] + call)
            self.assertEqual(Hall(9, 3, [Hand(7, "zoe"), Hall(4, 1, [self.hall])]).call(name), [4, 1] + call)

    def test_no_hand_for_a_name_that_is_not_there(self):
        for name in ("", "dan", "Ann", "5", "bob ", "ann; eve"):
            assert_refused(self, NoHand, self.hall.call, name)
            assert_refused(self, NoHand, Hall(0, 1, [self.hall]).call, name)
        assert_refused(self, NoHand, self.slow.call, "ann")
        assert_refused(self, NoHand, self.slow.call, "eve")
        assert_refused(self, NoHand, self.fast.call, "bob")
        self.assertEqual(self.hall.call("ann"), [2, 1])

    def test_each_hand_can_be_called_through_each_hall(self):
        outer = Hall(0, 3, [self.hall, hall_of(6, 2, [0, 3]), Hand(0, "zoe")])
        self.assertEqual(outer.names(), ["zoe"] + self.hall.names() + ["6/0", "6/3"])
        calls = [outer.call(name) for name in outer.names()]
        self.assertEqual(calls, [[0], [1, 2, 1], [1, 3], [1, 5, 6], [1, 5, 7], [6, 0], [6, 3]])
        self.assertEqual(calls, sorted(calls))

    def test_the_inner_numbers_are_of_their_own_lines(self):
        hall = Hall(0, 1, [Hall(1, 3, [Hand(7, "ann"), Hand(1, "bob")]), Hand(0, "cid")])
        self.assertEqual(hall.names(), ["cid", "bob", "ann"])
        self.assertEqual(hall.call("ann"), [1, 7])
        self.assertEqual(hall.time(), 3 + 3)

    def test_a_part_may_stand_in_several_halls(self):
        one = Hall(0, 3, [self.slow])
        other = Hall(1, 3, [self.slow, Hand(0, "dan")])
        self.assertEqual(one.names(), ["bob", "cid"])
        self.assertEqual(other.names(), ["dan", "bob", "cid"])
        self.assertEqual(self.slow.names(), ["bob", "cid"])
        self.assertEqual(self.slow.number, 5)

    # Each level has all halls of the one below in each of its halls: walked
    # anew for each way to them, these would be too many.
    def test_many_ways_to_the_same_halls(self):
        level = [Hall(number, 7, []) for number in range(120)]
        for height in range(2, 8):
            level = [Hall(number, 7, level) for number in range(120)]
        hall = Hall(0, 7, level)
        self.assertEqual(hall.time(), 1 + 7 * turns(list(range(120)), 7))
        self.assertEqual(hall.names(), [])


class Deep(unittest.TestCase):
    def test_eight_halls_deep(self):
        for parts in ([], [Hand(7, "ann")], [Hand(7, "ann"), Hand(6, "bob")]):
            for halls in range(1, 9):
                hall = deep(halls, parts)
                self.assertEqual(hall.time(), Hall(0, 3, parts).time() + halls - 1)
                self.assertEqual(hall.names(), [part.names()[0] for part in reversed(parts)])
        self.assertEqual(deep(8, [Hand(7, "ann")]).call("ann"), [6, 5, 4, 3, 2, 1, 0, 7])

    def test_nine_halls_deep(self):
        for parts in ([], [Hand(7, "ann")], [Hand(7, "ann"), Hand(6, "bob")]):
            hall = deep(8, parts)
            assert_refused(self, NoHall, Hall, 0, 3, [hall])
            assert_refused(self, NoHall, Hall, 0, 200, [hall, Hand(0, "zoe")])
            assert_refused(self, NoHall, Hall, 0, 3, [Hand(0, "zoe"), Hall(1, 0, []), hall])
            assert_refused(self, NoHall, Hall, 0, 3, [hall, Hall(1, 0, []), Hand(0, "zoe")])

    def test_many_halls_beside_one_another(self):
        parts = [Hall(number, 3, [Hand(0, f"n{number}")]) for number in range(40)]
        self.assertEqual(len(Hall(0, 6, parts).names()), 40)

    def test_different_depths_beside_one_another(self):
        seven, six = deep(7, []), deep(6, [])
        for parts in ([seven], [seven, Hand(1, "ann")], [seven, six], [six, seven], [six]):
            Hall(0, 3, parts)


class RefusedForNumbers(unittest.TestCase):
    def test_hands_that_are_not_on_the_line(self):
        for numbers, width in NOT_ON_LINE:
            with self.subTest(numbers=numbers, width=width):
                parts = [Hand(number, f"name {place}") for place, number in enumerate(numbers)]
                assert_refused(self, NoHands, Hall, 0, width, parts)

    def test_halls_that_are_not_on_the_line(self):
        for numbers, width in NOT_ON_LINE:
            with self.subTest(numbers=numbers, width=width):
                parts = [hall_of(number, 2, [place % 4]) for place, number in enumerate(numbers)]
                if len({part.names()[0] for part in parts}) == len(parts):
                    assert_refused(self, NoHands, Hall, 0, width, parts)
                parts = [Hall(number, 0, []) for number in numbers]
                assert_refused(self, NoHands, Hall, 0, width, parts)

    def test_a_hand_and_a_hall_with_one_number(self):
        assert_refused(self, NoHands, Hall, 0, 3, [Hand(5, "ann"), Hall(5, 0, [])])
        assert_refused(self, NoHands, Hall, 0, 3, [Hall(5, 0, []), Hand(1, "bob"), Hand(5, "ann")])

    def test_more_parts_than_the_line_has_numbers(self):
        assert_refused(self, NoHands, Hall, 0, 0, [Hand(0, "ann"), Hand(1, "bob")])

    def test_its_own_number_and_those_of_halls_around_do_not_count(self):
        self.assertEqual(Hall(100, 0, [Hall(0, 3, [Hand(7, "ann")])]).call("ann"), [0, 7])
        self.assertEqual(Hall(0, 1, [Hall(0, 0, [Hand(0, "ann")])]).call("ann"), [0, 0])

    def test_ahead_of_no_hall(self):
        assert_refused(self, NoHands, Hall, 0, 3, [Hand(8, "ann"), Hand(1, "ann")])
        assert_refused(self, NoHands, Hall, 0, 3, [Hand(1, "ann"), Hand(1, "ann")])
        assert_refused(self, NoHands, Hall, 0, 3, [Hand(1, "ann"), Hand(2, "ann"), Hand(-1, "bob")])
        assert_refused(self, NoHands, Hall, 0, 3, [Hand(1, "ann"), Hall(9, 1, [Hand(1, "ann")])])
        eight = deep(8, [Hand(3, "ann")])
        self.assertEqual(eight.number, 7)
        assert_refused(self, NoHands, Hall, 0, 2, [eight])
        assert_refused(self, NoHands, Hall, 0, 3, [eight, Hand(7, "bob")])
        assert_refused(self, NoHands, Hall, 0, 3, [eight, Hand(9, "ann")])


class RefusedForNames(unittest.TestCase):
    def assert_no_hall(self, parts):
        for order in itertools.permutations(parts):
            handed = list(order)
            assert_refused(self, NoHall, Hall, 0, 3, handed)
            self.assertEqual(handed, list(order))

    def test_beside_one_another(self):
        for name in ("ann", "", "a b"):
            self.assert_no_hall([Hand(1, name), Hand(2, name)])
            self.assert_no_hall([Hand(1, name), Hand(0, "bob"), Hand(7, name)])

    def test_in_halls_beside_one_another(self):
        self.assert_no_hall([Hall(1, 1, [Hand(0, "ann")]), Hall(2, 1, [Hand(1, "ann")])])
        two = Hall(1, 1, [Hand(0, "ann"), Hand(1, "bob")])
        self.assert_no_hall([two, Hand(0, "cid"), Hall(2, 1, [Hand(0, "bob")])])

    def test_at_different_depths(self):
        self.assert_no_hall([Hand(1, "ann"), Hall(2, 1, [Hand(0, "ann")])])
        self.assert_no_hall([Hand(1, "ann"), Hall(2, 1, [Hand(0, "bob"), Hall(1, 1, [Hand(1, "ann")])])])
        self.assert_no_hall([Hall(1, 1, [Hand(0, "ann")]), Hall(2, 1, [Hall(0, 1, [Hand(0, "ann")])])])
        self.assert_no_hall([deep(7, [Hand(1, "ann")]), Hand(0, "ann")])

    def test_the_same_part_by_two_ways(self):
        hand = Hand(1, "ann")
        self.assert_no_hall([Hall(1, 1, [hand]), Hall(2, 1, [hand])])
        self.assert_no_hall([Hall(2, 1, [hand]), hand])

    def test_names_that_are_not_the_same(self):
        names = ["ann", "Ann", "ann ", "", " "]
        parts = [Hand(number, name) for number, name in enumerate(names)] + [Hall(5, 0, [Hand(0, "an")])]
        self.assertEqual(Hall(0, 3, parts).names(), names + ["an"])

    def test_the_same_name_in_two_halls_that_do_not_meet(self):
        one, other = Hall(0, 1, [Hand(0, "ann")]), Hall(1, 1, [Hand(1, "ann")])
        self.assertEqual(Hall(0, 1, [one]).call("ann"), [0, 0])
        self.assertEqual(Hall(0, 1, [other]).call("ann"), [1, 1])

    def test_twice_and_too_deep(self):
        eight = deep(8, [Hand(3, "ann")])
        self.assert_no_hall([eight, Hand(0, "ann")])

    def test_after_a_refusal_the_parts_are_as_before(self):
        inner = Hall(2, 1, [Hand(0, "ann")])
        parts = [Hand(1, "ann"), inner]
        assert_refused(self, NoHall, Hall, 0, 3, parts)
        assert_refused(self, NoHands, Hall, 0, 1, parts)
        self.assertEqual((inner.number, inner.time(), inner.names(), inner.call("ann")), (2, 1, ["ann"], [0]))
        self.assertEqual(Hall(0, 3, parts[1:]).call("ann"), [2, 0])
        self.assertEqual(Hall(0, 3, parts[:1]).call("ann"), [1])


class NothingChangesBehindTheMaking(unittest.TestCase):
    def told(self, hall):
        return (hall.number, hall.time(), hall.names(), [hall.call(name) for name in hall.names()])

    def test_the_list_of_parts_is_not_kept(self):
        inner_parts = [Hand(1, "bob"), Hand(0, "ann")]
        inner = Hall(2, 1, inner_parts)
        parts = [Hand(5, "cid"), inner]
        hall = Hall(0, 3, parts)
        before = self.told(hall)
        self.assertEqual(before, (0, 6, ["ann", "bob", "cid"], [[2, 0], [2, 1], [5]]))
        inner_parts.clear()
        parts.append(Hand(7, "dan"))
        parts[0] = Hand(6, "eve")
        self.assertEqual(self.told(hall), before)
        parts.clear()
        self.assertEqual(self.told(hall), before)
        assert_refused(self, NoHand, hall.call, "dan")
        assert_refused(self, NoHand, hall.call, "eve")

    def test_a_hall_made_without_parts_stays_so(self):
        parts = []
        hall = Hall(0, 3, parts)
        parts.append(Hand(1, "ann"))
        self.assertEqual(self.told(hall), (0, 1, [], []))
        assert_refused(self, NoHand, hall.call, "ann")

    def test_the_list_of_parts_is_not_changed(self):
        parts = [Hand(5, "cid"), Hand(2, "bob"), Hand(3, "ann")]
        before = list(parts)
        hall = Hall(0, 3, parts)
        self.told(hall)
        self.assertEqual(parts, before)

    def test_told_lists_are_the_askers_own(self):
        hand = Hand(1, "ann")
        inner = Hall(2, 1, [hand])
        hall = Hall(0, 3, [inner, Hand(3, "bob")])
        before = [self.told(part) for part in (hand, inner, hall)]
        for part in (hand, inner, hall):
            part.names().append("more")
            part.names().clear()
            part.call("ann").append(9)
            part.call("ann").clear()
            for name in ("more", "zoe"):
                assert_refused(self, NoHand, part.call, name)
        self.assertEqual([self.told(part) for part in (hand, inner, hall)], before)
        self.assertEqual(Hall(4, 3, [hall]).call("ann"), [0, 2, 1])

    def test_each_told_list_is_a_new_one(self):
        for part in (Hand(1, "ann"), Hall(0, 3, [Hand(1, "ann")])):
            self.assertIsNot(part.names(), part.names())
            self.assertIsNot(part.call("ann"), part.call("ann"))
        names, call = part.names(), part.call("ann")
        part.names().append("more")
        part.call("ann").append(2)
        self.assertEqual((names, call), (["ann"], [1]))


if __name__ == "__main__":
    unittest.main()
