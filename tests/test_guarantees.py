"""[9] and [10]: what the document guarantees over the whole program, up to its limits."""

import unittest

from pagelives.closures import all_stands, harms_of, is_harmless
from pagelives.deedbars import barred_by, deeds_now
from pagelives.deedrows import Deeds
from pagelives.follows import follows
from pagelives.harmchecker import lets_harm
from pagelives.harmpapers import harm_paper
from pagelives.historychecker import is_history, lets_history
from pagelives.kinds import HARMS
from pagelives.leastrules import greatest_rules, least_rules
from pagelives.likeness import have_same_harms, have_same_histories, parting_history
from pagelives.lives import Live
from pagelives.liveslogs import replayed
from pagelives.looks import set_on
from pagelives.needless import left_without, needless_records
from pagelives.rulechecker import lets_rules
from pagelives.rulepapers import rules_paper
from pagelives.safepoints import safe_points
from pagelives.searches import harm_history
from pagelives.standchecker import lets_stands
from pagelives.stands import stands_of
from pagelives.stops import going_deeds, harms_by_stop, harms_now, left_by_stop
from pagelives.stores import store_after
from pagelives.stretches import harms_along, stops_along
from pagelives.strikechecker import lets_strikes
from pagelives.strikes import least_strikes, strikes_in, strikes_paper
from tests.draws import Draws
from tests.samples import ALL, OLD, Case
from tests.test_exact import Disk

PAGES = ("a", "b", "c", "d", "zz", "abcdefgh")
ALONG = ((), OLD[:2], OLD[:5], OLD[:2] + (("point", 1), ("write", "a"), ("seal",)))
STARTS = ALONG + (OLD,)


def drawn(start, many, part=4, deeds=14, pages=3):
    """Pairs of a rule and a history by it, drawn."""
    draws = Draws(start)
    for n in range(many):
        rule = draws.some_of(ALL, part)
        yield rule, draws.history(rule, deeds, PAGES[:1 + n % pages], STARTS)


def pages_of(history):
    """The pages of a history."""
    return Deeds(history).pages_now


class Guarantees(Case):
    def test_l1_sets_are_exact(self):
        # What some times of reaching the disk leave on a page hangs on its deeds, and those without a page.
        for rule, history in drawn(91, 60):
            for page in pages_of(history):
                disk = Disk(rule)
                for deed in history:
                    if deed[1:] in ((), (page,)):
                        disk.do(deed)
                    elif deed[0] in ("keep", "plain", "write"):
                        # A deed of another page uses a number, too.
                        disk.used += 1
                self.same(set_on(rule, history, page), tuple(sorted(disk.disks)))

    def test_l2_stops_amid_going_change_nothing(self):
        draws = Draws(92)
        stopped = 0
        for rule, history in drawn(920, 60):
            deeds = going_deeds(rule, history)
            self.assertLessEqual(len(deeds) - 2, len(pages_of(history)))
            wanted = store_after(rule, history + deeds)
            going = history + (("stop",),)
            while not is_history(rule, going + (("end",),)) or draws.below(3):
                may = [deed for deed in deeds_now(rule, going) if deed[0] in ("put", "stop")]
                going = going + (draws.one_of(may),)
                stopped = stopped + (going[-1] == ("stop",))
            self.same(store_after(rule, going + (("end",),)), wanted)
        self.assertGreater(stopped, 30)

    def test_l3_one_page_tells_all_harms(self):
        found = set()
        for rule, history in drawn(93, 150, 3):
            harms = {harm for n in range(1, len(history) + 1) for harm, _ in harms_now(rule, history[:n])}
            harms = harms | {harm for harm, _ in harms_by_stop(rule, history)}
            self.assertLessEqual(harms, set(harms_of(rule)))
            for harm in harms:
                shortest = harm_history(rule, harm)
                self.same(pages_of(shortest), ("a",))
                self.same(harm in [pair[0] for pair in harms_now(rule, shortest)], True)
            found = found | harms
        self.assertEqual(found, set(HARMS))

    def test_l4_what_follows_hangs_on_the_stand(self):
        for rule, history in drawn(94, 60):
            listed = all_stands(rule)
            for page in pages_of(history) + ("free",):
                stands = stands_of(rule, history, page)
                self.assertLessEqual(set(stands), set(listed))
                words = {word for stand in stands for word, _, _ in follows(rule, stand)}
                for deed in deeds_now(rule, history, page):
                    if deed[1:] == (page,) and deed[0] in ("keep", "plain", "put"):
                        self.assertIn(deed[0], words)
        for rule in ((), ALL, ("dead",), ("ahead", "clean", "dead", "first", "fixed", "level", "quiet")):
            for harm in HARMS:
                self.same(lets_harm(rule, harm, harm_paper(rule, harm)), harm in harms_of(rule))
            if is_harmless(rule):
                self.same(lets_stands(rule, all_stands(rule)), len(all_stands(rule)))

    def test_l5_with_more_guards(self):
        draws = Draws(95)
        for rule, history in drawn(950, 60, 2):
            less = draws.some_of(rule)
            self.same(lets_history(less, history), len(history))
            for page in pages_of(history):
                self.assertLessEqual(set(set_on(rule, history, page)), set(set_on(less, history, page)))
            self.assertLessEqual(set(harms_of(rule)), set(harms_of(less)))
            self.assertLessEqual(set(all_stands(rule)), set(all_stands(less)))

    def test_l5_rules(self):
        guards = ("calm", "clean", "dead", "first", "struck")
        always = ("ahead", "fixed", "level")
        least, greatest = least_rules(guards=guards, always=always), greatest_rules(guards=guards, always=always)
        draws = Draws(951)
        for _ in range(20):
            some = draws.some_of(guards)
            good = is_harmless(tuple(sorted({*some, *always})))
            self.same([any(set(one) <= set(some) for one in least), any(set(some) <= set(one) for one in greatest)],
                      [good, not good])
            other = draws.some_of(guards)
            self.same(have_same_harms(some, other), harms_of(some) == harms_of(other))
            parted = [parting_history(some, other), parting_history(other, some)]
            self.same(have_same_histories(some, other), parted == [None, None])

    def test_l6_histories_without_stops(self):
        draws = Draws(96)
        for n in range(40):
            rule = draws.some_of(ALL, 5)
            history = draws.stretch(rule, 14, PAGES[:1 + n % 2], ALONG)
            left = stops_along(rule, history)
            for k in range(len(history) + 1):
                stopped = history[:k] + going_deeds(rule, history[:k])
                wanted = tuple([(page, set_on(rule, stopped, page)) for page in pages_of(history[:k])])
                self.same(left[k], wanted)
            many = len(store_after(rule, history)[0])
            self.same(needless_records(rule, history),
                      tuple([k for k in range(many) if left_without(rule, history, k) == left]))
            self.same(store_after(rule, history)[2] in safe_points(rule, history), harms_along(rule, history)[-1] == ())
            if len(strikes_in(rule, history)) <= 3:
                self.same(lets_strikes(rule, history, strikes_paper(rule, history)), least_strikes(rule, history))

    def test_l7_a_live_store_and_a_fresh_start(self):
        for rule, history in drawn(97, 40):
            live = Live(rule)
            live.do_all(*[("deed", deed) for deed in history])
            self.same([live.store_now, live.left_now], [store_after(rule, history), left_by_stop(rule, history)])
            self.assertTrue(replayed(live.story()) == live)

    def test_l7_what_an_accepted_paper_states(self):
        draws = Draws(98)
        for harms in (HARMS, ("old",), ("open", "missed")):
            choice = {"harms": harms, "guards": draws.some_of(ALL, 3)[:4], "always": draws.some_of(ALL)}
            self.same(lets_rules(rules_paper(**choice), **choice), least_rules(**choice))


class Limits(Case):
    def test_six_pages_and_sixty_deeds(self):
        draws = Draws(10)
        for rule in ((), ("ahead",), ALL):
            history = draws.history(rule, 60, PAGES)
            self.same(lets_history(rule, history), 60)
            store = store_after(rule, history)
            self.assertLessEqual(len(store[4]), 6)
            self.same([row[:1] for row in left_by_stop(rule, history)], [row[:1] for row in store[4]])
            for deed in deeds_now(rule, history, *PAGES):
                self.same(barred_by(rule, history, deed), ())


if __name__ == "__main__":
    unittest.main()
