"""Points 68 to 74: the crew, beside a plain one and beside plain memory."""

import random
import unittest
from copy import deepcopy

from lentpages.crew import Crew, finish, play
from tests.plain_crew import RULES, PlainCrew, plain_answers, random_programs, random_schedule

MAP = ("map", 0, 5, "rw")
READ = ("read", 0, 5)
UNMAP = ("unmap", 0, 5)
FORK = ("fork", 0)


def write(value, space=0, page=5):
    return ("write", space, page, value)


def turns(*hands):
    return [("turn", hand) for hand in hands]


def told(crew, hands):
    """All that a crew tells."""
    rows = [(crew.answers(hand), crew.cached(hand), crew.waiting(hand)) for hand in range(hands)]
    return (crew.order(), crew.finished(), rows)


class RandomRunsTest(unittest.TestCase):
    def run_crew(self, seed, without=""):
        """Plays random steps on both crews; returns the results and whether plain memory gives the same answers."""
        rng = random.Random(seed)
        hands = rng.randint(1, 4)
        # With few pages and spaces the deeds meet more often.
        pages, spaces = ((1, 1), (1, 2), (2, 3))[seed % 3]
        programs = random_programs(rng, hands, 20, pages=pages, spaces=spaces)
        crew, plain = Crew(deepcopy(programs), without=without), PlainCrew(programs, without=without)
        found = []
        for step in random_schedule(rng, hands, 150):
            found.extend(play(crew, [step]))
            self.assertEqual(found[-1:], play(plain, [step]))
            self.assertEqual(told(crew, hands), told(plain, hands), (seed, programs))
            if not without:
                self.assertTrue(plain.keys_are_right())
        left = sum([len(program) for program in programs]) - len(crew.order())
        rounds = finish(crew)
        self.assertLessEqual(rounds, 2 * left)
        self.assertTrue(crew.finished())
        self.assertEqual(finish(crew), 0)
        answers = [crew.answers(hand) for hand in range(hands)]
        return found, answers == plain_answers(programs, crew.order())

    def test_the_answers_are_those_of_plain_memory(self):
        counts = {}
        for seed in range(250):
            found, same = self.run_crew(seed)
            self.assertTrue(same, seed)
            for result in found:
                counts[result] = counts.get(result, 0) + 1
        for result in ("idle", "waits", "ended", "held", "announced", 0, 1, 2):
            self.assertGreater(counts[result], 10, result)

    def test_with_a_rule_left_out(self):
        for rule in RULES:
            wrong = [seed for seed in range(300) if not self.run_crew(1000 + seed, rule)[1]]
            self.assertGreater(len(wrong), 0, rule)

    def test_finish_from_the_start(self):
        for seed in range(100):
            rng = random.Random(seed)
            hands = rng.randint(1, 4)
            programs = random_programs(rng, hands, 20)
            crew, plain = Crew(programs), PlainCrew(programs)
            rounds = 0
            while not plain.finished():
                rounds += 1
                for hand in range(hands):
                    plain.take(hand)
                    plain.turn(hand)
            self.assertEqual((finish(crew), told(crew, hands)), (rounds, told(plain, hands)))
            self.assertLessEqual(rounds, 2 * sum([len(program) for program in programs]))

    def test_beyond_the_limits(self):
        rng = random.Random(5)
        programs = random_programs(rng, 7, 90, pages=4)
        crew = Crew(programs)
        play(crew, random_schedule(rng, 7, 300))
        finish(crew)
        self.assertEqual([crew.answers(hand) for hand in range(7)], plain_answers(programs, crew.order()))


class CrewTest(unittest.TestCase):
    def run_steps(self, programs, steps, *, without=""):
        crew = Crew(programs, without=without)
        return crew, play(crew, steps)

    def test_the_example_of_the_document(self):
        steps = turns(0, 1, 0, 0) + [("take", 1), ("turn", 0)]
        crew, found = self.run_steps([[MAP, UNMAP], [READ]], steps)
        self.assertEqual(found, ["ended", "ended", "announced", "waits", 1, "ended"])
        self.assertEqual((crew.order(), crew.answers(1)), ([(0, 0), (1, 0), (0, 1)], [0]))

    def test_a_new_crew(self):
        crew = Crew([[], [READ]])
        self.assertEqual(told(crew, 2), ([], False, [([], [], 0), ([], [], 0)]))
        self.assertEqual((crew.turn(0), crew.take(0), crew.lose(1)), ("idle", 0, 0))
        self.assertEqual((play(crew, []), finish(crew), finish(crew), crew.finished()), ([], 1, 0, True))

    def test_refused_deeds(self):
        deeds = [
            ("unmap", 0, 5), ("protect", 0, 5, "r"), READ, write(1), MAP, MAP, ("protect", 0, 5, "w"), READ,
            ("protect", 0, 5, "rx"), write(1), READ, ("map", 1, 5, "r"), ("unmap", 1, 5), ("protect", 1, 5, "r"),
            ("read", 1, 5), ("write", 1, 5, 1), ("fork", 1), FORK, ("read", 1, 5), ("fork", 3),
        ]
        crew, found = self.run_steps([deeds], turns(*[0] * len(deeds)))
        self.assertEqual(found, ["ended"] * len(deeds))
        wanted = ["refused"] * 4 + ["done", "refused", "done", "refused", "done", "refused", 0] + ["refused"] * 6
        self.assertEqual(crew.answers(0), wanted + [1, 0, "refused"])

    def test_the_keys_of_reads_and_writes(self):
        crew, _ = self.run_steps([[MAP, READ, write(3), ("map", 0, 2, "rw"), ("read", 0, 2)]], turns(0, 0, 0, 0, 0))
        self.assertEqual(crew.cached(0), [(0, 2, "r"), (0, 5, "r"), (0, 5, "w")])
        self.assertEqual((crew.lose(0), crew.cached(0), crew.lose(0)), (3, [], 0))

    def test_a_key_is_used_before_anything_else(self):
        # The page is being unmapped, but hand 1 has its key until it takes the notice.
        steps = turns(0, 1, 0, 1) + [("take", 1)] + turns(1, 0, 1)
        crew, found = self.run_steps([[MAP, UNMAP], [READ, READ, READ]], steps)
        self.assertEqual(found, ["ended", "ended", "announced", "ended", 1, "held", "ended", "ended"])
        self.assertEqual(crew.answers(1), [0, 0, "refused"])

    def test_held_comes_before_refused(self):
        programs = [[MAP, UNMAP], [READ], [MAP, ("map", 0, 6, "r"), FORK, ("map", 1, 6, "r")], [("read", 9, 5)]]
        crew, found = self.run_steps(programs, turns(0, 1, 0, 2, 3))
        self.assertEqual(found, ["ended", "ended", "announced", "held", "ended"])
        self.assertEqual(crew.answers(3), ["refused"])
        self.assertEqual(play(crew, [("take", 1)] + turns(0, 2, 2, 2, 2)), [1] + ["ended"] * 5)
        self.assertEqual(crew.answers(2), ["done", "done", 1, "refused"])

    def test_what_an_announced_fork_holds(self):
        programs = [[MAP, FORK], [write(1)], [("map", 0, 9, "r")], [FORK]]
        crew, found = self.run_steps(programs, turns(0, 1, 0, 2, 3))
        self.assertEqual(found, ["ended", "ended", "announced", "held", "held"])
        self.assertEqual(play(crew, [("take", 1)] + turns(0, 2, 3)), [1, "ended", "ended", "ended"])
        self.assertEqual((crew.answers(0), crew.answers(3)), (["done", 1], [2]))

    def test_an_announced_page_holds_a_fork_of_its_space_only(self):
        programs = [[MAP, FORK, UNMAP], [READ], [FORK], [("fork", 1)]]
        _, found = self.run_steps(programs, turns(0, 0, 1, 0, 2, 3))
        self.assertEqual(found, ["ended", "ended", "ended", "announced", "held", "ended"])

    def test_a_fork_concerns_keys_to_write_only(self):
        crew, found = self.run_steps([[MAP, write(1), READ, FORK], [READ]], turns(0, 0, 0, 1, 0))
        self.assertEqual(found, ["ended"] * 5)
        self.assertEqual((crew.cached(0), crew.cached(1)), ([(0, 5, "r")], [(0, 5, "r")]))

    def test_a_write_to_a_shared_sheet(self):
        programs = [[MAP, write(7), FORK, ("read", 1, 5), write(8), READ], [READ, ("read", 1, 5)]]
        crew, found = self.run_steps(programs, turns(0, 0, 0, 0, 1, 0, 0))
        self.assertEqual(found, ["ended"] * 5 + ["announced", "waits"])
        self.assertEqual((crew.cached(0), crew.cached(1), crew.waiting(1)), ([(1, 5, "r")], [(0, 5, "r")], 1))
        self.assertEqual(play(crew, [("take", 1)] + turns(0, 0, 1)), [1, "ended", "ended", "ended"])
        self.assertEqual((crew.answers(0)[-2:], crew.answers(1)), (["done", 8], [7, 7]))
        self.assertEqual(crew.cached(0), [(0, 5, "r"), (0, 5, "w"), (1, 5, "r")])

    def test_a_sheet_that_is_shared_no_more(self):
        # While hand 0 waits, hand 1 unmaps the other page of the sheet.
        programs = [[MAP, FORK, write(8), READ], [READ, ("unmap", 1, 5)]]
        crew, found = self.run_steps(programs, turns(0, 0, 1, 0, 1) + [("take", 1)] + turns(0))
        self.assertEqual(found, ["ended", "ended", "ended", "announced", "ended", 1, "ended"])
        self.assertEqual((crew.cached(0), play(crew, turns(0)), crew.answers(0)[-1]), ([(0, 5, "w")], ["ended"], 8))

    def test_a_sheet_of_three_pages(self):
        # One of the pages is unmapped, or gets a sheet of its own; the two others still share theirs.
        for parting in (("unmap", 2, 5), write(9, 2)):
            programs = [[MAP, write(1), FORK, FORK, parting, write(2), ("read", 1, 5), write(3, 1), READ]]
            crew, _ = self.run_steps(programs, turns(*[0] * 9))
            self.assertEqual(crew.answers(0), ["done", "done", 1, 2, "done", "done", 1, "done", 2])

    def test_protect_concerns_the_rights_that_it_takes_away(self):
        rows = (("rw", "ended", [(0, 5, "r"), (0, 5, "w")]), ("rwx", "ended", [(0, 5, "r"), (0, 5, "w")]),
                ("r", "announced", [(0, 5, "r")]), ("w", "announced", [(0, 5, "w")]), ("x", "announced", []))
        for rights, wanted, keys in rows:
            programs = [[MAP, READ, write(1), ("protect", 0, 5, rights)], [READ, write(2)]]
            crew, found = self.run_steps(programs, turns(0, 0, 0, 1, 1, 0))
            self.assertEqual((found[-1], crew.cached(0)), (wanted, keys))
            self.assertEqual((crew.take(1), crew.cached(1)), (int(wanted == "announced"), keys))
        # Taking x away concerns no key that a cache could have.
        _, found = self.run_steps([[("map", 0, 5, "rx"), ("protect", 0, 5, "r")], [READ]], turns(0, 1, 0))
        self.assertEqual(found, ["ended"] * 3)

    def test_a_notice_names_keys_that_come_later(self):
        # With all rules no such key can come, because the deeds that put it in are held.
        steps = turns(0, 1, 0, 1)
        crew, found = self.run_steps([[MAP, UNMAP], [READ, write(1)]], steps)
        self.assertEqual((found[-1], crew.cached(1)), ("held", [(0, 5, "r")]))
        crew, found = self.run_steps([[MAP, UNMAP], [READ, write(1)]], steps, without="hold")
        self.assertEqual((found[-1], crew.cached(1)), ("ended", [(0, 5, "r"), (0, 5, "w")]))
        self.assertEqual((crew.take(1), crew.cached(1)), (1, []))

    def test_losing_keys_takes_no_notice(self):
        crew, found = self.run_steps([[MAP, UNMAP], [READ]], turns(0, 1, 0) + [("lose", 1)] + turns(0))
        self.assertEqual(found, ["ended", "ended", "announced", 1, "waits"])
        self.assertEqual((crew.waiting(1), crew.take(1), crew.turn(0)), (1, 1, "ended"))

    def test_no_notice_without_a_key(self):
        crew, found = self.run_steps([[MAP, UNMAP], [READ], []], turns(0, 1) + [("lose", 1)] + turns(0))
        self.assertEqual(found[-1], "ended")
        self.assertEqual([crew.waiting(hand) for hand in range(3)], [0, 0, 0])

    def test_only_hands_with_a_key_get_a_notice(self):
        crew, found = self.run_steps([[MAP, UNMAP], [READ], [READ], []], turns(0, 1, 2, 0))
        self.assertEqual([crew.waiting(hand) for hand in range(4)], [0, 1, 1, 0])
        self.assertEqual(play(crew, [("take", 1)] + turns(0) + [("take", 2)] + turns(0)), [1, "waits", 1, "ended"])

    def test_what_is_passed_and_returned_is_copied(self):
        programs = [[MAP, READ], [READ]]
        crew = Crew(programs)
        programs[0].clear()
        programs.append([READ])
        play(crew, turns(0, 0, 1))
        for found in (crew.order(), crew.answers(0), crew.cached(0)):
            found.clear()
        self.assertEqual((crew.order(), crew.answers(0)), ([(0, 0), (0, 1), (1, 0)], ["done", 0]))
        self.assertEqual((crew.cached(0), crew.finished()), ([(0, 5, "r")], True))


class WithoutTest(unittest.TestCase):
    def run_steps(self, without, programs, steps):
        crew = Crew(programs, without=without)
        return crew, play(crew, steps)

    def test_announce(self):
        crew, found = self.run_steps("announce", [[MAP, READ, UNMAP], [READ, READ]], turns(0, 0, 1, 0, 1))
        self.assertEqual((found, crew.answers(1), crew.waiting(1)), (["ended"] * 5, [0, 0], 0))
        # The own keys are removed all the same.
        self.assertEqual((crew.cached(0), crew.cached(1)), ([], [(0, 5, "r")]))

    def test_wait(self):
        crew, found = self.run_steps("wait", [[MAP, READ, UNMAP], [READ, READ, READ]], turns(0, 0, 1, 0, 1))
        self.assertEqual((found, crew.waiting(1), crew.cached(0)), (["ended"] * 5, 1, []))
        self.assertEqual((crew.take(1), crew.turn(1), crew.answers(1)), (1, "ended", [0, 0, "refused"]))

    def test_hold(self):
        steps = turns(0, 1, 0) + [("take", 1)] + turns(1, 0, 1)
        crew, found = self.run_steps("hold", [[MAP, UNMAP], [READ, READ, READ]], steps)
        self.assertEqual(found, ["ended", "ended", "announced", 1, "ended", "ended", "ended"])
        self.assertEqual((crew.answers(1), crew.cached(1)), ([0, 0, 0], [(0, 5, "r")]))

    def test_deeds_on_a_page_that_is_gone(self):
        for deed in (write(9), ("protect", 0, 5, "r"), UNMAP):
            programs = [[MAP, FORK, UNMAP], [deed, write(1)], [READ, write(2, 1)]]
            # Hands 0 and 1 announce deeds about the same page; that of hand 0 is carried out first.
            if deed[0] == "protect":
                programs[2] = [("read", 0, 5), ("unmap", 1, 5), write(3)]
            steps = turns(0, 0, 2) + (turns(2, 2) if deed[0] == "protect" else [])
            crew, found = self.run_steps("hold", programs, steps + turns(0, 1) + [("take", 2)] + turns(0, 1, 1))
            self.assertEqual(found[len(steps):], ["announced", "announced", 2, "ended", "ended", "ended"])
            self.assertEqual((crew.answers(1), crew.cached(1)), (["done", "refused"], []))

    def test_rights_are_not_looked_at_again(self):
        programs = [[MAP, FORK, ("protect", 0, 5, "r")], [write(9), READ], [READ]]
        crew, found = self.run_steps("hold", programs, turns(0, 0, 2, 1, 0) + [("take", 2)] + turns(0, 1, 1))
        self.assertEqual(found, ["ended"] * 3 + ["announced", "ended", 1, "idle", "ended", "ended"])
        self.assertEqual((crew.answers(1), crew.cached(1)), (["done", 9], [(0, 5, "r"), (0, 5, "w")]))

    def test_lend(self):
        programs = [[MAP, write(1), FORK, write(2), ("read", 1, 5)]]
        crew, found = self.run_steps("lend", programs, turns(0, 0, 0, 0, 0))
        self.assertEqual((found, crew.answers(0)), (["ended"] * 5, ["done", "done", 1, "done", 2]))
        crew, _ = self.run_steps("", programs, turns(0, 0, 0, 0, 0))
        self.assertEqual(crew.answers(0), ["done", "done", 1, "done", 1])


if __name__ == "__main__":
    unittest.main()
