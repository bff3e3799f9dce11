"""Points 26 and 27: hands that come amid talks; points 2, 3 and 9 where they touch these."""

import inspect
import itertools
import unittest

from shoutline.bounds import slow_hands
from shoutline.comings import hearings, meetings
from shoutline.errors import NoHands, NoTurn
from shoutline.spans import top_of
from shoutline.talks import talk
from shoutline.turns import turn_of, turns
from tests.helper import GREAT_HANDS, NOT_ON_LINE, SIXTY_ONE_FIGURES, assert_refused

# The latest turn that is promised anything.
FAR_OFF = SIXTY_ONE_FIGURES


# Points 26 and 27 told again, as one would live through it, turn by turn: the
# meetings, and the hearings.
def lived_through(comings, width):
    unheard = dict((number, turn) for turn, number in comings)
    held, told = [], []
    turn, under_way = 0, []
    while unheard or under_way:
        waiting = sorted(number for number in unheard if unheard[number] <= turn)
        if not under_way and waiting:
            under_way = talk(waiting, top_of(width))
            held.append((turn, waiting, len(under_way)))
            came = dict((number, unheard.pop(number)) for number in waiting)
        if under_way:
            answer = under_way.pop(0)[1]
            if answer[0] == "word":
                told.append((answer[1], came[answer[1]], turn))
        turn += 1
    return held, told


class TheInterface(unittest.TestCase):
    def test_the_arguments(self):
        self.assertEqual(str(inspect.signature(meetings)), "(comings, width)")
        self.assertEqual(str(inspect.signature(hearings)), "(comings, width)")

    def test_the_kinds_of_the_answers(self):
        comings = [(4, 1), (0, 6), (0, 5)]
        self.assertIs(type(meetings(comings, 3)), list)
        for meeting in meetings(comings, 3):
            self.assertIs(type(meeting), tuple)
            self.assertEqual([type(thing) for thing in meeting], [int, list, int])
            self.assertEqual({type(hand) for hand in meeting[1]}, {int})
        self.assertIs(type(hearings(comings, 3)), list)
        for hearing in hearings(comings, 3):
            self.assertIs(type(hearing), tuple)
            self.assertEqual([type(thing) for thing in hearing], [int, int, int])
        self.assertIs(type(meetings([], 3)), list)
        self.assertIs(type(hearings([], 3)), list)


class OfComings(unittest.TestCase):
    # Comings in every order tell the same, and the list handed in stays.
    def assert_told(self, comings, width, held, told):
        for order in itertools.permutations(comings):
            handed = list(order)
            self.assertEqual(meetings(handed, width), held)
            self.assertEqual(hearings(handed, width), told)
            self.assertEqual(handed, list(order))

    # What point 27 says of every hearing, seen from the meetings.
    def assert_in_time(self, comings, width):
        held = meetings(comings, width)
        told = hearings(comings, width)
        self.assertEqual(sorted((came, number) for number, came, turn in told), sorted(comings))
        self.assertEqual([turn for number, came, turn in told], sorted({turn for number, came, turn in told}))
        for number, came, turn in told:
            own = [meeting for meeting in held if number in meeting[1]]
            self.assertEqual(len(own), 1)
            begin, hands, length = own[0]
            self.assertEqual(turn, begin + turn_of(hands, width, number))
            self.assertEqual(length, turns(hands, width))
            as_it_came = [size for start, others, size in held if start <= came < start + size and start != begin]
            self.assertLessEqual(len(as_it_came), 1)
            self.assertLess(turn - came, sum(as_it_came) + length)
            self.assertGreaterEqual(turn, came)


class TalkByTalk(OfComings):
    def test_no_comings(self):
        for width in (0, 1, 3, 200):
            self.assert_told([], width, [], [])

    def test_one(self):
        for turn in (0, 1, 4, FAR_OFF):
            for number, width in ((0, 0), (0, 1), (1, 1), (5, 3), (2**200 - 1, 200)):
                self.assert_told([(turn, number)], width, [(turn, [number], 1)], [(number, turn, turn)])

    def test_several_that_come_in_one_turn(self):
        for turn in (0, 2, FAR_OFF):
            held = [(turn, [1, 4, 6], 5)]
            told = [(1, turn, turn + 1), (4, turn, turn + 3), (6, turn, turn + 4)]
            self.assert_told([(turn, 6), (turn, 1), (turn, 4)], 3, held, told)

    def test_the_talk_takes_as_many_turns_as_the_width_asks_for(self):
        self.assert_told([(0, 0), (0, 1)], 1, [(0, [0, 1], 3)], [(0, 0, 1), (1, 0, 2)])
        self.assert_told([(0, 0), (0, 1)], 3, [(0, [0, 1], 7)], [(0, 0, 3), (1, 0, 4)])
        self.assert_told([(0, 0), (0, 1)], 200, [(0, [0, 1], 401)], [(0, 0, 200), (1, 0, 201)])

    # The talk of 1, 4 and 6 goes from turn 2 to turn 6, and 0 comes behind it.
    def assert_behind_the_first(self, came, begin):
        comings = [(2, 6), (2, 1), (2, 4), (came, 0)]
        told = [(1, 2, 3), (4, 2, 5), (6, 2, 6), (0, came, begin)]
        self.assert_told(comings, 3, [(2, [1, 4, 6], 5), (begin, [0], 1)], told)

    def test_amid_a_talk(self):
        for came in (3, 4, 5):
            self.assert_behind_the_first(came, 7)

    def test_in_the_last_turn_of_a_talk(self):
        self.assert_behind_the_first(6, 7)

    def test_in_the_turn_behind_a_talk(self):
        self.assert_behind_the_first(7, 7)

    def test_later(self):
        for came in (8, 9, 1000, FAR_OFF):
            self.assert_behind_the_first(came, came)

    def test_in_the_very_turn_in_which_the_first_talk_begins(self):
        held = [(2, [0, 1, 4, 6], 9)]
        told = [(0, 2, 5), (1, 2, 6), (4, 2, 9), (6, 2, 10)]
        self.assert_told([(2, 6), (2, 1), (2, 4), (2, 0)], 3, held, told)

    def test_in_the_very_turn_in_which_a_later_talk_begins(self):
        comings = [(2, 6), (2, 1), (2, 4), (3, 0), (7, 7)]
        told = [(1, 2, 3), (4, 2, 5), (6, 2, 6), (0, 3, 8), (7, 7, 9)]
        self.assert_told(comings, 3, [(2, [1, 4, 6], 5), (7, [0, 7], 3)], told)
        comings[-1] = (8, 7)
        told = [(1, 2, 3), (4, 2, 5), (6, 2, 6), (0, 3, 7), (7, 8, 8)]
        self.assert_told(comings, 3, [(2, [1, 4, 6], 5), (7, [0], 1), (8, [7], 1)], told)

    def test_those_who_wait_talk_together(self):
        comings = [(0, 0), (0, 7), (2, 3), (1, 4)]
        told = [(0, 0, 1), (7, 0, 2), (3, 2, 4), (4, 1, 5)]
        self.assert_told(comings, 3, [(0, [0, 7], 3), (3, [3, 4], 3)], told)

    def test_one_in_each_turn(self):
        comings = [(turn, 5 - turn) for turn in range(6)]
        held = [(turn, [5 - turn], 1) for turn in range(6)]
        told = [(5 - turn, turn, turn) for turn in range(6)]
        self.assert_told(comings, 3, held, told)

    def test_long_after_the_last_talk_has_ended(self):
        comings = [(1, 3), (1, 4), (500, 0), (500, 7), (FAR_OFF, 5)]
        held = [(1, [3, 4], 3), (500, [0, 7], 3), (FAR_OFF, [5], 1)]
        told = [(3, 1, 2), (4, 1, 3), (0, 500, 501), (7, 500, 502), (5, FAR_OFF, FAR_OFF)]
        self.assert_told(comings, 3, held, told)

    def test_a_talk_that_ends_beyond_the_greatest_turn(self):
        comings = [(FAR_OFF, 3), (FAR_OFF, 4), (FAR_OFF - 1, 0)]
        held = [(FAR_OFF - 1, [0], 1), (FAR_OFF, [3, 4], 3)]
        told = [(0, FAR_OFF - 1, FAR_OFF - 1), (3, FAR_OFF, FAR_OFF + 1), (4, FAR_OFF, FAR_OFF + 2)]
        self.assert_told(comings, 3, held, told)

    def test_the_width_0(self):
        for turn in (0, 1, 77, FAR_OFF):
            self.assert_told([(turn, 0)], 0, [(turn, [0], 1)], [(0, turn, turn)])

    def test_a_hand_that_comes_later_may_be_heard_earlier(self):
        comings = [(0, 0), (0, 7), (1, 6), (2, 1)]
        told = [(0, 0, 1), (7, 0, 2), (1, 2, 4), (6, 1, 5)]
        self.assert_told(comings, 3, [(0, [0, 7], 3), (3, [1, 6], 3)], told)

    def test_two_hundred_bits(self):
        great = 2**200 - 1
        comings = [(0, 0), (0, 1), (400, great), (400, great - 1), (401, 5)]
        held = [(0, [0, 1], 401), (401, [5, great - 1, great], 401)]
        told = [(0, 0, 200), (1, 0, 201), (5, 401, 402), (great - 1, 400, 800), (great, 400, 801)]
        self.assert_told(comings, 200, held, told)


class AsLivedThrough(OfComings):
    def assert_as_lived(self, comings, width):
        held, told = lived_through(comings, width)
        self.assertEqual(meetings(comings, width), held)
        self.assertEqual(hearings(comings, width), told)
        self.assert_in_time(comings, width)

    def test_every_coming_to_a_small_line(self):
        turn_or_never = [None] + list(range(6))
        for width in range(3):
            for when in itertools.product(turn_or_never, repeat=2**width):
                comings = [(turn, number) for number, turn in enumerate(when) if turn is not None]
                self.assert_as_lived(comings[::-1], width)

    def test_slow_talks_on_a_wider_line(self):
        for step in (1, 2, 5, 9, 30):
            for width in (3, 6, 9):
                hands = slow_hands(width, 8)
                comings = [(step * (place * place % 7), number) for place, number in enumerate(hands)]
                self.assert_as_lived(comings, width)

    def test_on_great_lines(self):
        for hands in GREAT_HANDS:
            for step in (0, 1, 150):
                comings = [(step * (place % 9), number) for place, number in enumerate(hands)]
                self.assert_as_lived(comings, 200)

    def test_great_turns_only_shift_the_talks(self):
        comings = [(0, 0), (0, 1), (3, 7), (12, 6), (12, 5), (14, 2), (40, 3)]
        later = [(turn + FAR_OFF - 40, number) for turn, number in comings]
        shift = FAR_OFF - 40
        held = [(begin + shift, hands, length) for begin, hands, length in meetings(comings, 3)]
        told = [(number, came + shift, turn + shift) for number, came, turn in hearings(comings, 3)]
        self.assertEqual(meetings(later, 3), held)
        self.assertEqual(hearings(later, 3), told)

    def test_six_hundred_comings(self):
        for step in (0, 1, 20):
            comings = [(step * (place // 3), 7**place % 2**150) for place in range(60, 660)]
            self.assertEqual(len({number for turn, number in comings}), 600)
            self.assertEqual(sum(len(hands) for begin, hands, length in meetings(comings, 150)), 600)
            self.assertEqual(len(hearings(comings, 150)), 600)

    def test_the_longest_wait(self):
        # 3 comes behind the first call of a talk, and is heard in the last
        # turn of the next one.
        comings = [(0, 2), (0, 0), (1, 3), (1, 1)]
        self.assertEqual(meetings(comings, 2), [(0, [0, 2], 3), (3, [1, 3], 3)])
        self.assertEqual(hearings(comings, 2), [(0, 0, 1), (2, 0, 2), (1, 1, 4), (3, 1, 5)])


class Refused(unittest.TestCase):
    def assert_both(self, wanted, comings, width):
        for order in (comings, comings[::-1]):
            before = list(order)
            assert_refused(self, wanted, meetings, order, width)
            assert_refused(self, wanted, hearings, order, width)
            self.assertEqual(order, before)

    def test_numbers_that_are_not_on_the_line(self):
        for hands, width in NOT_ON_LINE:
            for step in (0, 1, 1000):
                with self.subTest(hands=hands, width=width, step=step):
                    self.assert_both(NoHands, [(step * place, number) for place, number in enumerate(hands)], width)

    def test_the_same_hand_twice(self):
        self.assert_both(NoHands, [(0, 3), (0, 3)], 3)
        self.assert_both(NoHands, [(0, 3), (900, 3)], 3)
        self.assert_both(NoHands, [(0, 0), (4, 0)], 0)
        self.assert_both(NoHands, [(0, 3), (1, 4), (5, 3), (6, 1)], 3)

    def test_no_hands_goes_ahead_of_no_turn(self):
        for hands, width in NOT_ON_LINE:
            for turn in (-1, -FAR_OFF):
                with self.subTest(hands=hands, width=width, turn=turn):
                    self.assert_both(NoHands, [(turn, number) for number in hands], width)
                    self.assert_both(NoHands, [(turn, 0)] + [(0, number) for number in hands], width)

    def test_a_turn_below_0(self):
        for turn in (-1, -2, -1000, -FAR_OFF):
            self.assert_both(NoTurn, [(turn, 0)], 0)
            self.assert_both(NoTurn, [(turn, 7)], 3)
            self.assert_both(NoTurn, [(0, 1), (turn, 7), (3, 2)], 3)
            self.assert_both(NoTurn, [(turn, 1), (turn, 2)], 3)
            self.assert_both(NoTurn, [(0, 2**200 - 1), (FAR_OFF, 0), (turn, 1)], 200)

    def test_after_a_refusal_all_is_as_before(self):
        comings = [(3, 1), (0, 6)]
        before = (meetings(comings, 3), hearings(comings, 3))
        for wrong in ((0, 8), (-1, 0), (5, 6)):
            comings.append(wrong)
            for asked in (meetings, hearings):
                with self.assertRaises((NoHands, NoTurn)):
                    asked(comings, 3)
            self.assertEqual(comings, [(3, 1), (0, 6), wrong])
            comings.pop()
        self.assertEqual((meetings(comings, 3), hearings(comings, 3)), before)


class TheAskersOwn(unittest.TestCase):
    def test_what_was_told_stays_as_it_is(self):
        comings = [(0, 5), (0, 1), (1, 2)]
        held, told = meetings(comings, 3), hearings(comings, 3)
        comings.append((0, 7))
        comings[0] = (9, 0)
        meetings(comings, 3)
        hearings(comings, 3)
        self.assertEqual(held, [(0, [1, 5], 3), (3, [2], 1)])
        self.assertEqual(told, [(1, 0, 1), (5, 0, 2), (2, 1, 3)])

    def test_what_is_done_to_a_told_list_changes_nothing(self):
        comings = [(0, 5), (0, 1), (1, 2)]
        first = meetings(comings, 3)
        second = meetings(comings, 3)
        for meeting in first:
            meeting[1].append(0)
        first.clear()
        hearings(comings, 3).clear()
        self.assertEqual(second, [(0, [1, 5], 3), (3, [2], 1)])
        self.assertEqual(meetings(comings, 3), second)
        self.assertEqual(hearings(comings, 3), [(1, 0, 1), (5, 0, 2), (2, 1, 3)])
        self.assertEqual(comings, [(0, 5), (0, 1), (1, 2)])

    def test_the_list_of_no_comings_is_a_new_one(self):
        for asked in (meetings, hearings):
            empty = []
            told = asked(empty, 3)
            self.assertIsNot(told, empty)
            told.append("more")
            self.assertEqual(empty, [])
            self.assertEqual(asked(empty, 3), [])


if __name__ == "__main__":
    unittest.main()
