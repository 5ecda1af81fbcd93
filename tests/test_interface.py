"""How the calls are told in one list, and the answers given back in one."""

import unittest

import quarterdesk.house
from helper import BUY, SELL, HouseTest, encode, last, run, would


class Interface(HouseTest):
    def test_the_list_itself(self):
        told = [0, 3, -10, 10, 50, 0, 1, 3, 0, 1000, 0, 0, 5, 2, 1, 3, 0]
        told += [10, 6, 1, 0, 5, 0, 0, 97, 1, 3, 1, 0, 3]
        told += [10, 6, 1, 0, 5, 0, 0, 97, 1, 0]
        told += [14, 3, 3, 0, 5, 1, 0]
        told += [15, 1, 1, 2, 1, 1, 2, 5, 5]
        told += [23, 0, 0, 24, 0, 0, 20, 1, 9, 0]
        self.assertEqual(quarterdesk.house.answers(told), [
            1, 0, 2, 0, 1, 2, 0, 1, 2, 0, 1, 1, -1, 2, 0, 0, 3, 0, 1, -40, 4, 0, 1, 1, 1, 2, 0, 0, 1, -5])

    def test_would_in_the_list_itself(self):
        told = [31, 4, 0, -10, 10, 50, 0, 31, 1, 23, 0, 0, 3, -10, 10, 50, 0]
        told += [31, 4, 1, 0, 14, 0, 0, 1, 3, 0, 14, 0, 0, 5, 2, 1, 3, 0]
        told += [31, 7, 10, 1, 0, 5, 0, 0, 97, 1, 3, 1, 0, 3]
        told += [31, 7, 10, 1, 0, 5, 0, 0, 97, 1, 0]
        told += [31, 6, 8, 1, 0, 0, 1, 14, 0, 8, 5, 1, 0, 0, 1, 14, 0]
        told += [31, 4, 14, 3, 0, 1, 1, 1, 14, 31, 4, 14, 3, 0, 1, 1, 0]
        told += [31, 2, 15, 1, 2, 1, 1, 2, 5, 5]
        told += [31, 1, 24, 0, 31, 2, 30, 2, 0, 24, 0, 0]
        self.assertEqual(quarterdesk.house.answers(told), [
            3, 0, 0, 0, 3, 0, -2, 0, 1, 0, 3, 0, 0, 0, 2, 0, 1, 2, 0, 1, 5, 0, -15, 1, 1, 6, 1, -1, 3, 0, 0, 0, 2, 0, 1,
            3, 0, 0, 0, 3, 0, -12, 0, 3, 0, -12, 0, 3, 0, 0, 0, 3, 0, -6, 0, 2, 0, 0])

    def test_one_call(self):
        self.assertEqual(quarterdesk.house.answers([23, 0, 0]), [1, -2])
        self.assertEqual(quarterdesk.house.answers([0, 3, 0, 0, 0, 0]), [1, 0])
        self.assertEqual(quarterdesk.house.answers([31, 4, 0, 0, 0, 0, 0]), [3, 0, 0, 0])

    def test_the_list_handed_in_stays_the_same(self):
        calls = [("open", -10, 10, 50), ("found", 0, 1000, 0), ("desk", 1, 3), ("block", 1, BUY, 5, 0, 0, 0, [4, 5]),
                 ("step", 1, 0, SELL, 5, 3), would(("settle", 3, 0, 6, [3])), ("settle", 3, 0, 6, [3]),
                 would(("take", 1, [1], [5, 5])), ("take", 1, [1], [5, 5]), ("step", 9, 0, 0, 0, 1),
                 would(("block", 1, BUY, 5, 0, 0, 0, [4, 5]))]
        told = encode(calls)
        before = list(told)
        given = quarterdesk.house.answers(told)
        self.assertEqual(told, before)
        given.append(7)
        self.assertEqual(told, before)

    def test_nothing_is_kept(self):
        calls = [("open", -10, 10, 50), ("found", 0, 1000, 0), ("desk", 1, 3), ("live", 1, BUY, 5, 3), ("stop", 1, 1)]
        first = run(calls)
        self.assertEqual(run([("tree",)]), [[-2]])
        self.assertEqual(run([would(("open", 0, 1, 0)), would(("tree",))]), [[0, 0, 0], [0, -2, 0]])
        self.assertEqual(run([("open", 0, 1, 0), ("tree",)]), [[0], [0, 0]])
        self.assertEqual(run(calls), first)

    def test_answers_are_new_lists_of_plain_whole_numbers(self):
        told = encode([("open", -10, 10, 50), ("found", 0, 1000, 1), ("firm", 1), ("stop", 1, 1), ("firm", 1),
                       would(("stop", 1, 0)), would(("line", 1, 0)), would(("payout", 1, 5))])
        first = quarterdesk.house.answers(told)
        first.clear()
        given = quarterdesk.house.answers(told)
        self.assertIs(type(given), list)
        self.assertTrue(all(type(number) is int for number in given))

    def test_four_hundred_calls(self):
        calls = [("open", -1000000, 1000000, 50)]
        calls += [("found", (number - 1) // 2, 10**18, number % 2) for number in range(1, 65)]
        calls += [("desk", number, number % 8) for number in range(1, 65)]
        calls += [("step", 1, 0, number % 2, 31 * number, number) for number in range(1, 65)]
        calls += [("cut", 64, 1), ("most", 1, 0, BUY, 500)] * 103 + [("tree",)]
        self.assertEqual(len(calls), 400)
        replies = run(calls)
        self.assertEqual(replies[:193], [[0]] + [[0, number] for number in range(1, 65)] * 3)
        self.assertEqual(replies[193], [0])
        self.assertEqual(replies[195::2][:102], [[-12]] * 102)
        self.assertEqual(replies[-1][:2], [0, 64])

    def test_four_hundred_calls_with_would_among_them(self):
        calls = [("open", -1000000, 1000000, 50)]
        calls += [("found", (number - 1) // 2, 10**18, number % 2) for number in range(1, 65)]
        calls += [("desk", number, number % 8) for number in range(1, 65)]
        calls += [("step", 1, 0, number % 2, 31 * number, number) for number in range(1, 65)]
        calls += [("charge", 1, 10**15), would(("line", 1, 0)), would(("cut", 64, 1))] * 69
        self.assertEqual(len(calls), 400)
        replies = run(calls)
        worst = last(calls[:193] + [("worst", 1, 0)])[1]
        for count in range(69):
            need = (count + 1) * 10**15 + worst
            self.assertEqual(replies[194 + 3 * count], [0, -15, 1, 1, need])
        self.assertEqual(replies[-1], [0, 0, 0])

    def test_the_longest_list(self):
        # Rows of 200 numbers are handed in too, though they are out of range.
        calls = [("open", 0, 0, 0)] + [("take", 1, [1] * 200, [0] * 200)] * 41
        self.assertLessEqual(len(encode(calls)), 17000)
        self.assertEqual(run(calls), [[0]] + [[-1]] * 41)
        calls = [("open", 0, 0, 0)] + [would(("take", 1, [1] * 200, [0] * 200))] * 41
        self.assertLessEqual(len(encode(calls)), 17000)
        self.assertEqual(run(calls), [[0]] + [[-1]] * 41)
        calls = [("open", 0, 0, 0)] + [would(("take", 1, [1] * 64, [0] * 100))] * 98
        self.assertLessEqual(len(encode(calls)), 17000)
        self.assertEqual(run(calls), [[0]] + [[0, -7, 0]] * 98)


if __name__ == "__main__":
    unittest.main()
