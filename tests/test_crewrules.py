"""Point 74: for each rule a run that goes wrong if the rule is left out, and does not otherwise."""

import random
import unittest

from lentpages.crew import Crew, finish, play
from lentpages.crewrules import broken_run
from tests.plain_crew import RULES, PlainCrew, plain_answers, random_schedule

KINDS = {"map": 4, "unmap": 3, "protect": 4, "read": 3, "write": 4, "fork": 2}


def answers_of(crew, programs):
    return [crew.answers(hand) for hand in range(len(programs))]


class BrokenRunTest(unittest.TestCase):
    def test_the_form(self):
        for rule in RULES:
            programs, schedule = broken_run(rule)
            self.assertIsInstance(broken_run(rule), tuple)
            self.assertIn(len(programs), range(1, 5))
            for program in programs:
                self.assertIsInstance(program, list)
                self.assertLessEqual(len(program), 40)
                for deed in program:
                    self.assertIsInstance(deed, tuple)
                    self.assertEqual(len(deed), KINDS[deed[0]])
            self.assertIsInstance(schedule, list)
            for kind, hand in schedule:
                self.assertIn(kind, ("turn", "take", "lose"))
                self.assertIn(hand, range(len(programs)))

    def test_without_the_rule_an_answer_is_wrong(self):
        for rule in RULES:
            for kind in (Crew, PlainCrew):
                programs, schedule = broken_run(rule)
                crew = kind(programs, without=rule)
                play(crew, schedule)
                self.assertTrue(crew.finished())
                self.assertNotEqual(answers_of(crew, programs), plain_answers(programs, crew.order()))

    def test_with_all_rules_the_answers_are_right(self):
        for rule in RULES:
            programs, schedule = broken_run(rule)
            rng = random.Random(1)
            for number in range(50):
                crew = Crew(programs)
                play(crew, schedule if number == 0 else random_schedule(rng, len(programs), 40))
                finish(crew)
                self.assertEqual(answers_of(crew, programs), plain_answers(programs, crew.order()))

    def test_with_another_rule_left_out(self):
        # The runs of "hold" and "lend" go right if only one of the other rules is left out.
        for rule in ("hold", "lend"):
            programs, schedule = broken_run(rule)
            other = "lend" if rule == "hold" else "hold"
            crew = Crew(programs, without=other)
            play(crew, schedule)
            finish(crew)
            self.assertEqual(answers_of(crew, programs), plain_answers(programs, crew.order()))

    def test_a_new_result_each_time(self):
        for rule in RULES:
            wanted = broken_run(rule)
            programs, schedule = broken_run(rule)
            programs[0].clear()
            programs.append([])
            schedule.clear()
            self.assertEqual(broken_run(rule), wanted)


if __name__ == "__main__":
    unittest.main()
