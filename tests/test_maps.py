"""Stands led into one another, [9], and stands that are the same but for their blanks, [11]."""

import itertools
import random
import unittest

from mustrows.maps import led, renamed
from mustrows.stands import moved, stand_of
from things import (
    W, X, Y, blank, both_ways, clique, edges, name, plain_blanks, plain_led, plain_moved, plain_same, ring, row,
    some_stand,
)


def shuffled(chance, rows, first=0):
    """The stand with other numbers for its blanks, and the moves that lead to it."""
    numbers = plain_blanks(rows)
    others = chance.sample(range(first, first + len(numbers) + 3), len(numbers))
    moves = [(number, blank(other)) for number, other in zip(numbers, others)]
    return moved(rows, moves), moves


class Led(unittest.TestCase):
    def check_led(self, one, other):
        told = led(one, other)
        self.assertIs(type(told), tuple)
        self.assertEqual(told[0], "led")
        self.assertEqual(len(told), 2)
        self.assertIs(type(told[1]), list)
        self.assertEqual([type(move) for move in told[1]], [tuple] * len(told[1]))
        self.assertEqual([number for number, cell in told[1]], plain_blanks(one))
        self.assertLessEqual(plain_moved(one, dict(told[1])), set(other))
        return told[1]

    def check_never(self, one, other):
        self.assertEqual(led(one, other), ("never",))

    def test_blanks_become_names(self):
        one = [row("e", blank(3), blank(7)), row("e", blank(7), X)]
        other = [row("e", W, X), row("e", X, Y), row("e", Y, X)]
        self.assertEqual(self.check_led(one, other), [(3, X), (7, Y)])

    def test_blanks_become_blanks(self):
        one = [row("e", blank(0), blank(1)), row("u", blank(1))]
        other = [row("e", blank(5), blank(0)), row("e", blank(5), blank(4)), row("u", blank(4))]
        self.assertEqual(self.check_led(one, other), [(0, blank(5)), (1, blank(4))])

    def test_two_blanks_may_become_one_cell(self):
        one = [row("e", blank(0), blank(1))]
        self.assertEqual(self.check_led(one, [row("e", X, X)]), [(0, X), (1, X)])
        self.assertEqual(self.check_led(one, [row("e", blank(1), blank(1))]), [(0, blank(1)), (1, blank(1))])

    def test_one_blank_becomes_one_cell_wherever_it_stands(self):
        self.check_never([row("e", blank(0), blank(0))], [row("e", X, Y), row("e", Y, X)])
        self.check_never([row("e", blank(0), Y), row("u", blank(0))], [row("e", X, Y), row("u", Y)])
        self.check_led([row("e", blank(0), blank(0), blank(1))], [row("e", X, Y, Y), row("e", Y, Y, X)])
        self.check_led([row("e", blank(1), blank(0), blank(0))], [row("e", X, X, X)])
        self.check_never([row("e", blank(1), blank(0), blank(0))], [row("e", X, X, Y), row("e", X, Y, X)])

    def test_names_stay_as_they_are(self):
        self.check_never([row("u", X)], [row("u", Y)])
        self.check_never([row("u", X)], [row("u", blank(0))])
        self.check_never([row("e", X, blank(0))], [row("e", Y, X), row("e", blank(0), X)])
        self.assertEqual(self.check_led([row("u", X)], [row("u", W), row("u", X)]), [])

    def test_a_blank_of_the_other_one_stands_for_itself_alone(self):
        self.check_never([row("e", blank(0), X)], [row("e", blank(0), blank(1))])
        self.check_never([row("e", blank(0), blank(0))], [row("e", blank(0), blank(1))])

    def test_tables_and_lengths(self):
        self.check_never([row("e", blank(0))], [row("f", X)])
        self.check_never([row("e", blank(0))], [row("e", X, X)])
        self.check_never([row("e", blank(0), blank(1))], [row("e", X)])
        self.check_led([row("e", blank(0)), row("e", blank(0), blank(0))], [row("e", X), row("e", X, X)])
        self.check_never([row("e", blank(0)), row("f", blank(0))], [row("e", X), row("f", Y)])

    def test_each_row_must_become_one(self):
        self.check_never([row("e", blank(0)), row("f", blank(1))], [row("e", X)])
        self.check_never([row("e", X), row("f", blank(1))], [row("f", X)])

    def test_no_rows(self):
        self.assertEqual(led([], []), ("led", []))
        self.assertEqual(led([], [row("e", blank(0))]), ("led", []))
        self.check_never([row("e", blank(0))], [])
        self.check_never([row("e", X)], [])

    def test_no_blanks(self):
        self.assertEqual(led([row("e", X, Y)], [row("e", X, Y), row("f", blank(0))]), ("led", []))

    def test_a_stand_is_led_into_itself_and_into_more(self):
        stand = [row("e", blank(0), blank(1)), row("e", X, blank(0)), row("f", blank(2))]
        self.check_led(stand, stand)
        self.check_led(stand, stand_of(stand + [row("e", W, W), row("f", blank(3))]))

    def test_rings(self):
        self.check_led(ring(12), ring(4, 100))
        self.check_never(ring(12), ring(5, 100))
        self.check_never(ring(4), ring(12, 100))
        self.check_led(ring(39), ring(13))
        self.check_never(ring(39), ring(38))
        self.check_led(edges([(k, k + 1) for k in range(40)]), ring(7, 100))
        self.check_never(ring(40), edges([(k, k + 1) for k in range(40)]))

    def test_where_a_choice_far_away_must_be_taken_back(self):
        one = edges([(k, k + 1) for k in range(20)]) + [row("u", blank(20))]
        other = edges([(k, k + 1) for k in range(20)] + [(k, k + 1) for k in range(100, 120)]) + [row("u", blank(120))]
        self.assertEqual(self.check_led(one, other), [(k, blank(100 + k)) for k in range(21)])

    def test_colours(self):
        wheel = both_ways([(k, (k + 1) % 5) for k in range(5)] + [(k, 5) for k in range(5)])
        self.check_never(wheel, clique(3, 10))
        self.check_led(wheel, clique(4, 10))
        self.check_never(clique(8), clique(7, 10))
        self.check_led(clique(7), clique(8, 10))

    def test_many_parts_that_share_no_blank(self):
        one = stand_of([line for k in range(9) for line in ring(4, 4 * k)] + ring(3, 36))
        self.check_never(one, ring(4, 100))
        self.check_led(one, stand_of(ring(4, 100) + ring(3, 200)))

    def test_long_chains(self):
        chain = edges([(k, k + 1) for k in range(200)])
        self.check_led(chain, clique(3, 500))
        self.check_never(chain, chain[1:])

    def test_against_the_words(self):
        chance = random.Random(3)
        cells = [blank(number) for number in range(4)] + [X, Y]
        count = {"led": 0, "never": 0}
        for turn in range(1500):
            one = some_stand(chance, chance.randint(0, 6), cells)
            other = some_stand(chance, chance.randint(1, 14), cells[2:])
            with self.subTest(one=one, other=other):
                if plain_led(one, other):
                    self.check_led(one, other)
                    count["led"] += 1
                else:
                    self.check_never(one, other)
                    count["never"] += 1
        self.assertGreater(min(count.values()), 200)


    def locks(self, size, keys):
        """So many blanks a key, each two of them unlike; by the key c there are too few cells for them, by d enough."""
        pairs = list(itertools.combinations(range(size), 2))
        return [
            row("k", key, blank(10 + size * n + one), blank(10 + size * n + other))
            for n, key in enumerate(keys) for one, other in pairs
        ]

    def lock_cells(self, size):
        cells = [name(text) for text in "mnop"]
        return [
            row("k", name(key), one, other) for key, count in (("c", size - 1), ("d", size))
            for one, other in itertools.permutations(cells[:count], 2)
        ]

    def test_choices_that_turn_out_wrong_late(self):
        keys = [blank(number) for number in range(5)]
        pairs = [row("l", *pair) for pair in itertools.product([name("c"), name("d")], repeat=2)]
        for size in (3, 4):
            one = stand_of(self.locks(size, keys) + [row("l", *pair) for pair in zip(keys, keys[1:])])
            other = self.lock_cells(size)
            told = self.check_led(one, stand_of(other + pairs))
            self.assertEqual(told[:5], [(number, name("d")) for number in range(5)])
            self.check_never(one, stand_of(other + pairs[:3]))

    def test_cells_that_could_change_places_but_for_a_name(self):
        cell = blank(0)
        c_and_d = [name("c"), name("d")]
        # With the rows of a, the name comes up ahead of the blank.
        for more in ([], [row("a", cell, X), row("a", X, cell)]):
            for right, (c, d) in ((X, c_and_d), (cell, c_and_d[::-1])):
                one = self.locks(4, [blank(4)]) + [row("f", blank(4), blank(3), X)]
                one += [row("h", blank(3), blank(number)) for number in range(30, 50)]
                other = more + self.lock_cells(4) + [row("h", cell, W), row("h", X, W)]
                other += [row("f", c, cell, X), row("f", d, X, X), row("f", c, X, cell), row("f", d, cell, cell)]
                told = self.check_led(stand_of(one), stand_of(other))
                self.assertEqual(told[:2], [(3, right), (4, name("d"))])

    def test_stands_that_are_led_by_their_making(self):
        """Each row is made of a row of the other one, so a search that gives up too soon is seen."""
        chance = random.Random(4)
        for turn in range(250):
            cells = [blank(k) for k in range(chance.randint(3, 8))] + [X, Y][:chance.randint(0, 2)]
            other = chance.choice((
                clique(3), clique(4), clique(5), clique(4) + [row("u", X), row("u", Y)],
                stand_of([row("e", one, two) for one in cells for two in cells if one != two]),
                some_stand(chance, 30, cells, "e", (2, 3, 3)), some_stand(chance, 40, cells, "e", (3, 4)),
            ))
            count = chance.randint(8, 16)
            becomes = [(blank(k), chance.choice([cell for line in other for cell in line[1]])) for k in range(count)]
            sources = {}
            for source, cell in becomes + [(X, X), (Y, Y)]:
                sources.setdefault(cell, []).append(source)
            lines = [chance.choice(other) for turn in range(chance.randint(20, 60))]
            lines = [line for line in lines if all(cell in sources for cell in line[1])]
            one = stand_of([(table, tuple(chance.choice(sources[cell]) for cell in line)) for table, line in lines])
            with self.subTest(one=one, other=other):
                self.check_led(one, other)


class Renamed(unittest.TestCase):
    def check_same(self, one, other):
        told = renamed(one, other)
        self.assertIs(type(told), tuple)
        self.assertEqual(told[0], "same")
        self.assertEqual(len(told), 2)
        self.assertIs(type(told[1]), list)
        self.assertEqual([type(move) for move in told[1]], [tuple] * len(told[1]))
        self.assertEqual([number for number, cell in told[1]], plain_blanks(one))
        self.assertEqual({kind for number, (kind, value) in told[1]} - {"blank"}, set())
        self.assertEqual(len({cell for number, cell in told[1]}), len(told[1]))
        self.assertEqual(plain_moved(one, dict(told[1])), set(other))
        return told[1]

    def check_apart(self, one, other):
        self.assertEqual(renamed(one, other), ("apart",))
        self.assertEqual(renamed(other, one), ("apart",))

    def test_other_numbers(self):
        one = [row("e", blank(0), blank(1)), row("u", blank(1))]
        other = [row("e", blank(9), blank(2)), row("u", blank(2))]
        self.assertEqual(self.check_same(one, other), [(0, blank(9)), (1, blank(2))])

    def test_a_stand_and_itself(self):
        stand = [row("e", blank(0), blank(1)), row("e", blank(1), X), row("u", Y)]
        self.assertEqual(self.check_same(stand, stand), [(0, blank(0)), (1, blank(1))])

    def test_two_blanks_that_change_places(self):
        one = [row("e", blank(0), X), row("e", blank(1), Y)]
        other = [row("e", blank(0), Y), row("e", blank(1), X)]
        self.assertEqual(self.check_same(one, other), [(0, blank(1)), (1, blank(0))])

    def test_no_blanks(self):
        self.assertEqual(renamed([row("e", X)], [row("e", X)]), ("same", []))
        self.check_apart([row("e", X)], [row("e", Y)])
        self.check_apart([row("e", X)], [row("e", X), row("e", Y)])
        self.check_apart([row("e", X)], [row("f", X)])

    def test_no_rows(self):
        self.assertEqual(renamed([], []), ("same", []))
        self.check_apart([], [row("e", X)])
        self.check_apart([], [row("e", blank(0))])

    def test_a_blank_is_no_name(self):
        self.check_apart([row("e", blank(0))], [row("e", X)])
        self.check_apart([row("e", blank(0), blank(1))], [row("e", blank(0), X)])

    def test_two_blanks_are_not_one(self):
        self.check_apart([row("e", blank(0), blank(1))], [row("e", blank(0), blank(0))])
        self.check_apart([row("e", blank(0)), row("f", blank(1))], [row("e", blank(0)), row("f", blank(0))])

    def test_names_and_lengths_and_tables_stay(self):
        self.check_apart([row("e", blank(0), X)], [row("e", blank(0), Y)])
        self.check_apart([row("e", blank(0), X)], [row("e", X, blank(0))])
        self.check_apart([row("e", blank(0))], [row("f", blank(0))])
        self.check_apart([row("e", blank(0))], [row("e", blank(0), blank(0))])

    def test_led_into_one_another_is_not_enough(self):
        one = [row("e", blank(0), blank(1))]
        other = [row("e", blank(0), blank(1)), row("e", blank(0), blank(2))]
        self.assertEqual((led(one, other)[0], led(other, one)[0]), ("led", "led"))
        self.check_apart(one, other)

    def test_one_led_to_a_part_of_the_other_is_not_enough(self):
        one = [row("e", blank(0), blank(1))]
        self.check_apart(one, [row("e", blank(0), blank(1)), row("e", blank(1), blank(0))])
        self.check_apart(one, [row("e", blank(0), blank(1)), row("e", X, X)])

    def test_which_cells_of_a_row_are_alike(self):
        one = [row("e", blank(0), blank(0), blank(1)), row("e", blank(1), blank(1), blank(0))]
        other = [row("e", blank(0), blank(1), blank(0)), row("e", blank(1), blank(0), blank(1))]
        self.check_apart(one, other)
        self.check_same(one, [row("e", blank(5), blank(5), blank(7)), row("e", blank(7), blank(7), blank(5))])

    def test_rings_that_only_their_length_tells_apart(self):
        for counts, others in (((3, 3), (6,)), ((4, 5), (3, 6)), ((3,) * 13, (3,) * 10 + (9,))):
            one, other = [
                stand_of([line for k, count in enumerate(lengths) for line in ring(count, sum(lengths[:k]))])
                for lengths in (counts, others)
            ]
            self.check_apart(one, other)
            for stand in (one, other):
                self.check_same(stand, shuffled(random.Random(1), stand)[0])

    def test_parts_that_hang_on_a_common_blank(self):
        def hub(counts):
            lines = [line for k, count in enumerate(counts) for line in ring(count, 1 + sum(counts[:k]))]
            return stand_of(lines + [row("h", blank(0), blank(number)) for number in range(1, 1 + sum(counts))])
        self.check_apart(hub((3, 3, 3, 3)), hub((3, 3, 6)))
        self.check_same(hub((3, 6, 3)), hub((6, 3, 3)))

    def test_stands_in_which_all_blanks_look_alike(self):
        chance = random.Random(2)
        places = [(one, other) for one in range(4) for other in range(4)]
        rook = both_ways([
            (4 * a + b, 4 * c + d) for a, b in places for c, d in places if (a == c) != (b == d)
        ])
        knotted = both_ways([
            (4 * a + b, 4 * ((a + c) % 4) + (b + d) % 4) for a, b in places for c, d in ((0, 1), (1, 0), (1, 1))
        ])
        self.assertEqual(len(rook), len(knotted))
        self.check_apart(rook, knotted)
        for stand in (rook, knotted, clique(8), both_ways([(k, 10 + j) for k in range(5) for j in range(6)])):
            self.check_same(stand, shuffled(chance, stand)[0])

    def test_many_rows(self):
        chance = random.Random(4)
        chain = edges([(k, k + 1) for k in range(200)])
        wide = [row("u", blank(k)) for k in range(200)]
        for stand in (chain, wide):
            self.check_same(stand, shuffled(chance, stand)[0])
        self.check_apart(chain, chain[1:])
        self.check_apart(wide, wide[1:] + [row("u", X)])

    def test_against_the_words(self):
        chance = random.Random(5)
        cells = [blank(number) for number in range(4)] + [X]
        count = {"same": 0, "apart": 0}
        for turn in range(1500):
            one = some_stand(chance, chance.randint(1, 7), cells, "e", (2, 2, 3))
            other = shuffled(chance, one)[0]
            if chance.random() < 0.6:
                line = chance.choice(other)
                others = [blank(number) for number in plain_blanks(other)] + [X]
                changed = (line[0], tuple(chance.choices(others, k=len(line[1]))))
                other = stand_of([kept for kept in other if kept != line] + [changed])
            with self.subTest(one=one, other=other):
                if plain_same(one, other):
                    self.check_same(one, other)
                    count["same"] += 1
                else:
                    self.check_apart(one, other)
                    count["apart"] += 1
        self.assertGreater(min(count.values()), 200)


if __name__ == "__main__":
    unittest.main()
