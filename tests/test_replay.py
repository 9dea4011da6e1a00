"""Point 75: deeds of a crew in a house, beside plain memory."""

import random
import unittest
from copy import deepcopy

from lentpages.crew import Crew, finish, play
from lentpages.house import House
from lentpages.replay import replay
from tests.plain import RIGHTS
from tests.plain_crew import plain_answers, random_programs, random_schedule


def in_pages(programs, page_count):
    """The programs with the pages of a house."""
    return [
        [deed[:2] + tuple([page % page_count for page in deed[2:3]]) + deed[3:] for deed in program]
        for program in programs
    ]


def large_house(hands=1, **more):
    return House(**{"widths": (3, 2), "page_size": 3, "frames": 2, "places": 100, "hands": hands, **more})


def random_order(rng, programs):
    """An order that keeps the order of each hand; it may end before all deeds are done."""
    left = [hand for hand, program in enumerate(programs) for _ in program]
    rng.shuffle(left)
    done = [0] * len(programs)
    order = []
    for hand in left[:rng.randint(0, len(left) + 5)]:
        order.append((hand, done[hand]))
        done[hand] += 1
    return order


class ReplayTest(unittest.TestCase):
    def test_orders_of_crews(self):
        for seed in range(60):
            rng = random.Random(seed)
            hands = rng.randint(1, 4)
            programs = in_pages(random_programs(rng, hands, 20, pages=3), 6)
            crew = Crew(programs)
            play(crew, random_schedule(rng, hands, 100))
            finish(crew)
            house = large_house(rng.randint(1, 4), cache=rng.randrange(5), page_size=1 + seed % 3)
            found = replay(programs, crew.order(), house)
            self.assertEqual(found, [crew.answers(hand) for hand in range(hands)])
            self.assertEqual(found, plain_answers(programs, crew.order()))

    def test_any_order(self):
        for seed in range(60):
            rng = random.Random(seed)
            programs = in_pages(random_programs(rng, rng.randint(1, 4), 20, pages=3), 6)
            order = random_order(rng, programs)
            before = deepcopy((programs, order))
            self.assertEqual(replay(programs, order, large_house(3)), plain_answers(programs, order))
            self.assertEqual((programs, order), before)

    def test_each_right(self):
        for rights in RIGHTS:
            for later in RIGHTS:
                program = [("map", 0, 5, rights), ("read", 0, 5), ("write", 0, 5, 7), ("protect", 0, 5, later)]
                program += [("read", 0, 5), ("write", 0, 5, 8), ("protect", 0, 5, "r"), ("read", 0, 5)]
                order = [(0, position) for position in range(8)]
                house = large_house()
                self.assertEqual(replay([program], order, house), plain_answers([program], order))
                self.assertEqual(house.regions(0), [(5, 6, "r", "", 0)])

    def test_refused_deeds_are_not_done(self):
        house = large_house()
        program = [("map", 0, 2, "rw"), ("write", 0, 2, 9), ("map", 0, 2, "r"), ("unmap", 0, 3), ("protect", 0, 3, "r")]
        program += [("fork", 1), ("map", 1, 0, "r"), ("unmap", 1, 2), ("read", 1, 2), ("write", 1, 2, 1)]
        program += [("read", 0, 3)]
        found = replay([program], [(0, position) for position in range(len(program))], house)
        self.assertEqual(found, [["done", "done"] + ["refused"] * 9])
        self.assertEqual((house.spaces(), house.regions(0)), ([0], [(2, 3, "rw", "", 0)]))
        self.assertEqual(house.read(0, 6, 3), [9, 0, 0])

    def test_forks_and_their_numbers(self):
        program = [("map", 0, 0, "rw"), ("write", 0, 0, 1), ("fork", 0), ("write", 1, 0, 2), ("fork", 1), ("fork", 0)]
        program += [("read", space, 0) for space in range(4)]
        house = large_house()
        found = replay([program], [(0, position) for position in range(len(program))], house)
        self.assertEqual(found, [["done", "done", 1, "done", 2, 3, 1, 2, 2, 1]])
        self.assertEqual(house.spaces(), [0, 1, 2, 3])

    def test_the_hands(self):
        programs = [[("map", 0, hand, "rw"), ("write", 0, hand, hand), ("read", 0, hand)] for hand in range(4)]
        order = [(hand, position) for position in range(3) for hand in range(4)]
        for hands in (1, 2, 3, 4):
            house = large_house(hands, frames=9)
            self.assertEqual(replay(programs, order, house), [["done", "done", hand] for hand in range(4)])
            for hand in range(hands):
                pages = [page for page in range(4) if page % hands == hand]
                wanted = [(0, page, "w") for page in pages] + [(0, page, "r") for page in pages]
                self.assertEqual(sorted(house.cached(hand)), sorted(wanted))

    def test_space_0_is_made_without_deeds(self):
        house = large_house()
        self.assertEqual((replay([[], []], [], house), house.spaces()), ([[], []], [0]))


if __name__ == "__main__":
    unittest.main()
