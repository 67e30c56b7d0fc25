"""What several modules say of one and the same machine is told alike ([1.5], [3.1], [4.3], [4.4], [4.10], [6.1] to [9.1])."""

import random
import unittest
from fractions import Fraction

from faremachines.bystate import best_by_state, state_walker
from faremachines.cheapest import cheapest_ways
from faremachines.charts import chart_of, fare_by_chart, product
from faremachines.comparing import never_dearer_union
from faremachines.desk import run_script
from faremachines.edited import Edited
from faremachines.errors import Broken
from faremachines.forced import forced
from faremachines.games import worths
from faremachines.greatest import greatest_fare
from faremachines.growing import growing_paper, log_of
from faremachines.limits import is_limited
from faremachines.machines import best_way, either, fare_by, fare_of, fares_behind, fares_from, turned
from faremachines.made import as_machine, made
from faremachines.means import greatest_mean, least_mean
from faremachines.office import Office, load_office
from faremachines.regretgame import least_regret
from faremachines.singles import single_fare
from faremachines.slices import cheapest_slice, fares_together
from faremachines.texts import machine_text, read_machine
from faremachines.unions import union_fare
from faremachines.walkers import judge_lower, judge_upper, lower_paper, regret, upper_paper, walker_fare
from tests.samples import COUNTER, FORK, HALF_USEFUL, NONE, PLAIN, STUCK, SWAPPING, answer_of, least, logs_up_to
from tests.samples import random_machines
from tests.test_limits import free_machines

MACHINES = random_machines(760, 60) + free_machines(761, 40) + [COUNTER, FORK, HALF_USEFUL, PLAIN, STUCK, SWAPPING]


def built(log, machine):
    """Return a log that is kept with a machine, built up and edited letter by letter."""
    source = random.Random(len(log))
    kept = Edited(machine, ())
    for at, letter in enumerate(log):
        kept.edit(("put", at, source.choice(machine[0])))
        kept.edit(("put", at, machine[0][0]))
        kept.edit(("cut", at + 1))
        kept.edit(("change", at, letter))
    return kept


def office_with(*machines):
    """Return an office with some machines."""
    office = Office(machines[0][0])
    for machine in machines:
        office.add(machine)
    return office


class FareTest(unittest.TestCase):
    def test_the_fare_of_a_log(self):
        singles = 0
        for machine in MACHINES:
            single = answer_of(made, machine)
            singles += single != "TooLarge"
            for log in logs_up_to(machine[0], 4):
                fare = fare_of(machine, log)
                told = [fare_by_chart(machine, chart_of(machine, log)), built(log, machine).fare()]
                told.append(([fare for fare, _ in cheapest_ways(machine, log, 3)] + [NONE])[0])
                told.append(fare_of(turned(machine), log[::-1]))
                told += fares_together([machine, either(machine, machine)] if len(machine[1]) <= 4 else [machine], log)
                told.append(fare_of(read_machine(machine_text(machine)), log))
                if single != "TooLarge":
                    told.append(single_fare(single, log))
                way = best_way(machine, log)
                told.append(NONE if way is None else fare_by(machine, log, way))
                for at in range(len(log) + 1):
                    ahead, behind = fares_behind(machine, log[:at]), fares_from(machine, log[at:])
                    told.append(least([one + other for one, other in zip(ahead, behind) if NONE not in (one, other)]))
                    told.append(fare_by_chart(machine, product(chart_of(machine, log[:at]), chart_of(machine, log[at:]))))
                self.assertEqual(set(told), {fare}, (machine, log))
        self.assertGreater(singles, 50)

    def test_the_fare_by_an_office_and_by_the_desk(self):
        source = random.Random(762)
        for machine in MACHINES[:40]:
            office = office_with(machine, turned(machine))
            log = tuple(source.choices(machine[0], k=source.randrange(5)))
            for at, letter in enumerate(log):
                office.edit(("put", at, letter))
            fares = [(1, fare_of(machine, log)), (2, fare_of(machine, log[::-1]))]
            self.assertEqual(office.fares(), fares)
            self.assertEqual(load_office(office.image()).fares(), fares)
            for number, found in ((1, machine), (2, turned(machine))):
                self.assertEqual(office.machines()[number - 1], (number, found, NONE))
            lines = machine_text(machine).split("\n")[:-1]
            script = [lines[0], f"new {len(machine[1])}"]
            states = [line.split(" ") for line in lines if line.startswith("state")]
            for state, (_, first, last) in enumerate(states):
                script += [f"first 1 {state} {first}", f"last 1 {state} {last}"]
            script += [line.replace("move", "move 1") for line in lines if line.startswith("move")]
            script += [f"put {at} {letter}" for at, letter in enumerate(log)] + ["fares"]
            if len(script) <= 100:
                told = "none" if fares[0][1] == NONE else fares[0][1]
                self.assertEqual(run_script("\n".join(script))[-1], f"1={told}")

    def test_the_cheapest_slice_of_all_letters_is_the_fare(self):
        for machine in MACHINES:
            for log in logs_up_to(machine[0], 3):
                told = answer_of(cheapest_slice, machine, log, len(log))
                fare = fare_of(machine, log)
                self.assertEqual(told, "Missing" if fare == NONE else (fare, (0, len(log))))


class UnionTest(unittest.TestCase):
    def test_the_lesser_fare_by_the_union_of_what_is_made(self):
        told = 0
        pairs = [(one, other) for one, other in zip(MACHINES, MACHINES[1:]) if one[0] == other[0]]
        for one, other in pairs:
            singles = [answer_of(made, one), answer_of(made, other)]
            if "TooLarge" in singles or len(singles[0][2]) > 6 or len(singles[1][2]) > 6:
                continue
            told += 1
            both = either(one, other)
            for log in logs_up_to(one[0], 4):
                fare = least([fare for fare in (fare_of(one, log), fare_of(other, log)) if fare != NONE])
                self.assertEqual((union_fare(tuple(singles), log), fare_of(both, log)), (fare, fare))
            for single in singles:
                self.assertIn(answer_of(never_dearer_union, tuple(singles), (single,)), (True, "TooLarge"))
        self.assertGreater(told, 10)

    def test_what_is_made_told_as_a_machine(self):
        for machine in MACHINES:
            single = answer_of(made, machine)
            other = "TooLarge" if single == "TooLarge" else answer_of(as_machine, single)
            if other != "TooLarge":
                self.assertEqual(made(other), single)
                self.assertEqual(answer_of(greatest_fare, other), answer_of(greatest_fare, machine))


class RegretTest(unittest.TestCase):
    def test_papers_and_regrets_of_the_best_walker_by_state(self):
        told = 0
        for machine in MACHINES:
            best = answer_of(best_by_state, machine)
            if isinstance(best, str):
                continue
            more, start, choice = best
            walker = state_walker(machine, start, choice)
            self.assertEqual(regret(machine, walker), more)
            self.assertIs(judge_upper(machine, walker, more, upper_paper(machine, walker, more)), True)
            if more:
                self.assertIs(judge_lower(machine, walker, more - 1, lower_paper(machine, walker, more - 1)), True)
            for log in logs_up_to(machine[0], 4):
                fare, paid = fare_of(machine, log), walker_fare(machine, walker, log)
                self.assertTrue(fare == NONE or fare <= paid <= fare + more)
            # What is forced is at most what any walker can promise.
            for turns in (0, 2, 4):
                self.assertTrue(forced(machine, turns) <= more)
            with_cap = answer_of(least_regret, machine, 60) if more <= 60 and len(machine[1]) <= 2 else "TooLarge"
            if isinstance(with_cap, int):
                self.assertTrue(forced(machine, 3) <= with_cap)
            told += 1
        self.assertGreater(told, 40)


class LimitTest(unittest.TestCase):
    def test_a_limited_machine_kept_with_its_greatest_fare_as_the_bound(self):
        source = random.Random(763)
        told = 0
        for machine in MACHINES:
            most = answer_of(greatest_fare, machine)
            if not isinstance(most, int):
                continue
            office = office_with(machine)
            office.set_bound(1, most if fare_of(machine, ()) != NONE else NONE)
            for _ in range(25):
                edit = source.choice([("put", source.randrange(len(office.log()) + 1), source.choice(machine[0])), ("cut", 0)])
                try:
                    office.edit(edit)
                except Broken as error:
                    # The log may be one that cannot be gone, but it never costs more.
                    self.assertEqual((error.number, error.fare), (1, NONE))
                except ValueError:
                    continue
                self.assertLessEqual(office.fares()[0][1], most)
                told += 1
        self.assertGreater(told, 300)

    def test_a_growing_paper_and_the_office(self):
        told = 0
        for machine in MACHINES:
            if answer_of(is_limited, machine) is not False:
                continue
            paper = growing_paper(machine)
            for n in (1, 3, 6):
                log = answer_of(log_of, paper, n)
                if log == "TooLarge":
                    continue
                fare = fare_of(machine, log)
                self.assertGreaterEqual(fare, n // len(machine[1]))
                office = load_office(office_with(machine).image().replace("log \n", "log " + " ".join(log) + "\n"))
                self.assertEqual(office.fares(), [(1, fare)])
                if fare > 0:
                    with self.assertRaises(Broken):
                        office.set_bound(1, fare - 1)
                office.set_bound(1, fare)
                told += 1
        self.assertGreater(told, 20)

    def test_means_of_limited_machines(self):
        # If all states have a last fare, and each log can be gone from each, a limited machine has free rounds.
        for machine in MACHINES:
            if all(all(rows) for rows in machine[2]) and NONE not in machine[3] and answer_of(is_limited, machine) is True:
                if max(machine[1]) != NONE:
                    self.assertEqual(least_mean(machine), (0, 1))

    def test_worths_are_between_the_means(self):
        told = 0
        for machine in MACHINES:
            if not all(any(rows) for rows in machine[2]):
                continue
            begun = (machine[0], (0,) * len(machine[1])) + machine[2:]
            low, high = Fraction(*least_mean(begun)), Fraction(*greatest_mean(begun))
            for worth in worths(machine):
                self.assertTrue(low <= Fraction(*worth) <= high)
                told += 1
        self.assertGreater(told, 30)
