import unittest
from fractions import Fraction

from creepclocks import families
from creepclocks.errors import NotAlike
from creepclocks.families import Family, Renaming
from creepclocks.likeness import Unlike, three_numbers
from creepclocks.papers import Paper
from creepclocks.steps import Step
from creepclocks.straight import plain_creep, straight_form
from tests.helper import (
    ANY_VALUES, as_step, caught, fractions_of, numbers_of, pair, pairs, poly, put_in, renamed_poly, step, unit,
    way_back,
)

# The first steps of families, with what is free in them: the leads, whether there are times, and the places.
CASES = [
    ("0 0", "any", False, [2]),
    ("0 0 0 0 0", "any", False, [2, 3, 4, 5]),
    ("1 0", "any", False, [2]),
    ("1 0 0 0", "any", False, [2, 3, 4]),
    ("2 1", "any", False, []),
    ("-5/3 1 0 1/2 -2", "any", False, []),
    ("-1 3", "any", False, []),
    ("-1 1 -1", "any", False, [3]),
    ("-1 0 0 0 0 0", "any", False, [3, 5]),
    ("-1 1 -1 1 -1 1 -1", "any", False, [3, 5, 7]),
    ("1 2", "one", False, [2]),
    ("1 -1 1/2", "one", True, [3]),
    ("1 1 0 0 0 0", "one", True, [6]),
    ("1 0 3", "sign", False, [2, 3]),
    ("1 0 3 1", "sign", False, [3, 4]),
    ("1 0 -1/2 3 1", "sign", True, [4, 5]),
    ("1 0 2 3 1 0 1", "sign", True, [6, 7]),
    ("1 0 0 2 -1 5", "one", False, [4, 5, 6]),
    ("1 0 0 2 -1 5 1", "one", True, [5, 6, 7]),
    ("1 0 0 0 -2 1 0 3", "sign", False, [5, 6, 7, 8]),
    ("1 0 0 0 -2 1 0 3 1", "sign", True, [6, 7, 8, 9]),
    ("-1 0 1", "sign", False, [3]),
    ("-1 1 0 2", "sign", False, [3]),
    ("-1 1 1 0 0", "sign", True, [5]),
    ("-1 1 1 0 0 0", "sign", True, [5]),
    ("-1 0 0 0 3", "sign", False, [3, 5]),
    ("-1 0 0 0 2 0 0 0", "sign", False, [5, 7]),
    ("-1 0 0 0 2 0 0 0 1", "sign", True, [7, 9]),
    ("0 3", "one", False, [2]),
    ("0 1 1 0 0 0", "one", False, [6]),
    ("0 0 2", "sign", False, [2, 3]),
    ("0 0 -1/3 2 1", "sign", False, [4, 5]),
    ("0 0 0 5 1 1", "one", False, [4, 5, 6]),
    ("0 0 0 0 2 1", "sign", False, [3, 4, 5, 6]),
]
RENAMER = numbers_of("-2 1 0 1/2 -1 3 0 1 2")
ANY_LEADS = [pair(text) for text in ("1", "-1", "2", "-3/5", "7/2")]
TIMES = [pair(text) for text in ("0", "1", "-2", "1/2", "-7/3")]


def other_of(f):
    """A step that is alike to f, by putting in."""
    return as_step(renamed_poly(poly(f), [Fraction(0)] + fractions_of(RENAMER[:f.order])))


def drawn_top(family, seed):
    return pairs(*[Fraction((seed * 7 + 3 * k) % 11 - 5, k % 3 + 1) for k in range(len(family.places()))])


def choices(family):
    """Leads, times and tops of members."""
    leads = {"one": [(1, 1)], "sign": [(1, 1), (-1, 1)], "any": ANY_LEADS}[family.leads]
    found = []
    for at, lead in enumerate(leads):
        for seed, time in enumerate(TIMES if family.timed else [None, None]):
            found.append((lead, time, drawn_top(family, at + 2 * seed)))
    return found


def family_of(text):
    return Family(step(text), other_of(step(text)))


class ValuesTest(unittest.TestCase):
    def test_each_kind(self):
        for text, leads, timed, places in CASES:
            f = step(text)
            family = Family(f, other_of(f))
            self.assertEqual((family.one, family.other, family.order), (f, other_of(f), f.order))
            self.assertEqual(family.leads, leads, text)
            self.assertIs(family.timed, timed, text)
            self.assertEqual(family.places(), places, text)
            size = len(places) + (1 if timed else 0) + (1 if leads == "any" else 0)
            self.assertEqual(family.size, size)
            self.assertEqual(repr(family), f"Family({size} free)")

    def test_scale(self):
        for text, leads, timed, places in CASES:
            f = step(text)
            # The strength of f is that of the other step times the power of this lead, up to the sign for even ones.
            wanted = {"any": (1, 1), "one": (-2, 1), "sign": (2, 1)}[leads]
            self.assertEqual(Family(f, other_of(f)).scale(), wanted, text)
            self.assertEqual(Family(f, f).scale(), (1, 1))
        self.assertEqual(Family(step("1 5 0"), step("1 2 0")).scale(), (5, 2))
        self.assertEqual(Family(step("0 -5 0"), step("0 2 0")).scale(), (-5, 2))
        self.assertEqual(Family(step("1 0 -4"), step("1 0 -9")).scale(), (2, 3))
        self.assertEqual(Family(step("1 0 0 8"), step("1 0 0 -27")).scale(), (-2, 3))
        self.assertEqual(Family(step("-1 0 -4"), step("-1 0 -9")).scale(), (2, 3))
        self.assertEqual(Family(step("0 0 -4"), step("0 0 -9")).scale(), (2, 3))
        self.assertEqual(Family(other=step("3 0"), one=step("3 1")).scale(), (1, 1))

    def test_places_are_new(self):
        family = family_of("1 0 3")
        family.places().clear()
        self.assertEqual(family.places(), [2, 3])

    def test_repr_uses_one_word(self):
        self.assertEqual(repr(Family(step("2 1"), step("2 0"))), "Family(1 free)")
        self.assertEqual(repr(Family(step("0 1"), step("0 1"))), "Family(1 free)")
        self.assertEqual(repr(Family(Step.still(24), Step.still(24))), "Family(24 free)")

    def test_unlike_orders(self):
        self.assertEqual(caught(Family, step("1 1"), step("2 1 1")), ("UnlikeOrders", {"one": 2, "other": 3}))
        self.assertEqual(caught(Family, step("0 0 0"), step("1 0")), ("UnlikeOrders", {"one": 3, "other": 2}))

    def test_not_alike(self):
        for one, other, question in (("1 1 0", "1 1 1", "log"), ("1 0 1", "1 0 2", "strength"),
                                     ("1 1 0", "1 0 2", "flat"), ("2 1", "3 1", "lead"), ("0 1 0", "0 0 1", "height"),
                                     ("1 0", "1 1", "kind"), ("-1 0 0", "-1 0 1", "flat")):
            with self.assertRaises(NotAlike) as held:
                Family(step(one), step(other))
            self.assertEqual(held.exception.code, "NotAlike")
            paper = held.exception.paper
            self.assertIsInstance(paper, Unlike)
            self.assertEqual((paper.one, paper.other, paper.question), (step(one), step(other), question))
            self.assertIsNone(paper.wrong())


class MemberTest(unittest.TestCase):
    def test_by_putting_in_and_back(self):
        for text, _, _, _ in CASES:
            family = family_of(text)
            one, other = poly(family.one), poly(family.other)
            for lead, time, top in choices(family):
                h = family.member(lead=lead, time=time, top=top)
                self.assertNotEqual(h.lead, (0, 1))
                self.assertEqual(put_in(poly(h), one), put_in(other, poly(h)), text)
                self.assertEqual(family.read(h), (lead, time, top))
                self.assertIs(h in family, True)

    def test_against_how_it_is_made(self):
        for text, _, _, _ in CASES:
            family = family_of(text)
            order = family.order
            form, p = straight_form(family.one)
            q = straight_form(family.other)[1]
            flat, strength, log = three_numbers(family.one)
            for lead, time, top in choices(family):
                inner = [Fraction(*lead) * number for number in unit(order, 1)]
                if time is not None:
                    inner = put_in(poly(plain_creep(order, flat, strength, log).power(time)), inner)
                for place, number in zip(family.places(), top):
                    inner[place] += Fraction(*number)
                scaled = [Fraction(*family.scale()) * number for number in put_in(inner, poly(p))]
                self.assertEqual(family.member(lead=lead, time=time, top=top),
                                 as_step(put_in(way_back(poly(q)), scaled)))

    def test_parts_that_are_omitted(self):
        for text, _, timed, places in CASES:
            family = family_of(text)
            zeros = [(0, 1)] * len(places)
            base = family.member(lead=(1, 1), time=(0, 1) if timed else None, top=zeros)
            self.assertEqual(family.member(), base)
            self.assertEqual(family.base(), base)
            self.assertEqual(family.member(time=None, top=None), base)
            self.assertEqual(family.member(top=tuple(zeros)), base)
            self.assertEqual(family.read(base), ((1, 1), (0, 1) if timed else None, zeros))

    def test_the_base_of_a_step_with_itself_is_still(self):
        for text, _, _, _ in CASES:
            f = step(text)
            self.assertEqual(Family(f, f).base(), Step.still(f.order))

    def test_powers_are_members(self):
        f = step("1 0 -1/2 3 1")
        family = Family(f, f)
        for t in TIMES:
            self.assertEqual(family.read(f.power(t))[:2], ((1, 1), t))

    def test_example(self):
        family = Family(step("1 0 4 0 0"), step("1 0 1 0 0"))
        h = family.member(lead=(-1, 1), time=(1, 2), top=[(1, 1), (0, 1)])
        self.assertEqual([family.size, family.places(), family.scale(), str(h), family.read(h)],
                         [3, [4, 5], (2, 1), "-2*x - 4*x^3 + 2*x^4 + 12*x^5 to 5",
                          ((-1, 1), (1, 2), [(1, 1), (0, 1)])])

    def test_keyword_only(self):
        family = family_of("1 0 -1/2 3 1")
        with self.assertRaises(TypeError):
            family.member((1, 1))

    def test_unchanged(self):
        family = family_of("1 0 -1/2 3 1")
        top = numbers_of("1 2")
        h = family.member(top=top)
        top[0] = (9, 1)
        self.assertEqual(family.read(h)[2], numbers_of("1 2"))
        family.read(h)[2].clear()
        self.assertEqual(family.read(h)[2], numbers_of("1 2"))

    def test_order_24(self):
        f = Step(pairs(1, 0, *[Fraction(k % 5 - 2, k) for k in range(3, 25)]))
        g = as_step(renamed_poly(poly(f), [Fraction(0), Fraction(2)] + [Fraction(1, k) for k in range(2, 25)]))
        family = Family(f, g)
        self.assertEqual((family.leads, family.timed, family.places()), ("sign", True, [23, 24]))
        h = family.member(lead=(-1, 1), time=(2, 3), top=numbers_of("5 -1/2"))
        self.assertEqual(put_in(poly(h), poly(f)), put_in(poly(g), poly(h)))
        self.assertEqual(family.read(h), ((-1, 1), (2, 3), numbers_of("5 -1/2")))


class MemberErrorsTest(unittest.TestCase):
    def test_invalid_lead(self):
        for text, leads, _, _ in CASES:
            family = family_of(text)
            wrong = ANY_VALUES + [(0, 1)]
            if leads != "any":
                wrong = wrong + [(2, 1), (-1, 2)]
            if leads == "one":
                wrong = wrong + [(-1, 1)]
            for lead in wrong:
                code, told = caught(family.member, lead=lead, time="x", top="x")
                self.assertEqual(code, "InvalidLead")
                self.assertIs(told["value"], lead)

    def test_invalid_time(self):
        for text, _, timed, _ in CASES:
            family = family_of(text)
            for time in ANY_VALUES + ([] if timed else [(0, 1), (1, 1), (-1, 2)]):
                if time is not None:
                    code, told = caught(family.member, time=time, top="x")
                    self.assertEqual(code, "InvalidTime")
                    self.assertIs(told["value"], time)

    def test_invalid_top(self):
        for text, _, _, places in CASES:
            family = family_of(text)
            many = len(places)
            for top in ("x", 0, True, step("1 1"), [(1, 1)] * (many + 1), ((1, 1),) * (many + 1), [None] * (many + 1)):
                self.assertEqual(caught(family.member, top=top), ("InvalidTop", {"at": -1}))
            if many > 0:
                for top in ([], (), [(1, 1)] * (many - 1)):
                    self.assertEqual(caught(family.member, top=top), ("InvalidTop", {"at": -1}))
            for at in range(many):
                for wrong in ANY_VALUES:
                    top = [(1, 1)] * at + [wrong] + [None] * (many - at - 1)
                    self.assertEqual(caught(family.member, top=top), ("InvalidTop", {"at": at}))

    def test_no_places(self):
        family = family_of("2 1")
        for top in (None, [], ()):
            self.assertEqual(family.member(top=top), family.base())


class ReadTest(unittest.TestCase):
    def test_any_renamer(self):
        # The renamer that the other step was made with is a member.
        for text, _, _, _ in CASES:
            family = family_of(text)
            h = Step(RENAMER[:family.order])
            lead, time, top = family.read(h)
            self.assertEqual(family.member(lead=lead, time=time, top=top), h)
            self.assertEqual(len(top), len(family.places()))
            self.assertIsInstance(top, list)
            self.assertEqual(time is None, not family.timed)
            self.assertEqual(family.read(step=h), (lead, time, top))

    def test_spoilt_members(self):
        for text, _, _, _ in CASES:
            family = family_of(text)
            one, other = poly(family.one), poly(family.other)
            for lead, time, top in choices(family)[:3]:
                right = poly(family.member(lead=lead, time=time, top=top))
                for at in range(2, family.order + 1):
                    spoilt = list(right)
                    spoilt[at] += Fraction(1, 2)
                    sides = list(zip(put_in(spoilt, one), put_in(other, spoilt)))
                    gaps = [place for place, (a, b) in enumerate(sides) if a != b]
                    self.assertIs(as_step(spoilt) in family, not gaps)
                    if gaps:
                        self.assertEqual(caught(family.read, as_step(spoilt)), ("NotInFamily", {"place": gaps[0]}))
                    else:
                        self.assertNotEqual(family.read(as_step(spoilt)), (lead, time, top))

    def test_errors_in_order(self):
        for text, _, _, _ in CASES:
            family = family_of(text)
            order = family.order
            longer = Step([(0, 1)] * (order + 1))
            self.assertEqual(caught(family.read, longer), ("UnlikeOrders", {"one": order, "other": order + 1}))
            for lost in (Step([(0, 1)] * order), Step([(0, 1)] * (order - 1) + [(1, 1)])):
                self.assertEqual(caught(family.read, lost), ("NotInFamily", {"place": 1}))
        family = Family(step("1 0 1"), step("1 0 1"))
        self.assertEqual(caught(family.read, step("2 0 0")), ("NotInFamily", {"place": 3}))
        family = Family(step("2 0 0"), step("2 0 0"))
        self.assertEqual(caught(family.read, step("1 0 1")), ("NotInFamily", {"place": 3}))
        self.assertEqual(caught(family.read, step("1 1 1")), ("NotInFamily", {"place": 2}))


class ContainsTest(unittest.TestCase):
    def test_any_value(self):
        for text, _, _, _ in CASES:
            family = family_of(text)
            lost = [Step([(0, 1)] * family.order), Step([(0, 1)] * (family.order - 1) + [(1, 1)])]
            base = family.base()
            for value in lost + [family, base.numbers(), base.as_row(), str(base), Step.still(24),
                                 base.gone_on([(0, 1)])]:
                self.assertIs(value in family, False)
            for value in ANY_VALUES:
                if not isinstance(value, Step):
                    self.assertIs(value in family, False)
            self.assertIs(family.base() in family, True)
            if family.order > 2:
                self.assertIs(family.base().cut(family.order - 1) in family, False)


class RenamingTest(unittest.TestCase):
    def test_right(self):
        for text, _, _, _ in CASES:
            family = family_of(text)
            self.assertIsNone(Renaming(family.one, family.other, family.base()).wrong())
            self.assertIsNone(Renaming(family.one, family.other, Step(RENAMER[:family.order])).wrong())

    def test_title_and_attributes(self):
        f, g, h = step("1 1"), step("1 1/2"), step("2 0")
        paper = Renaming(f, g, h)
        self.assertEqual((paper.title, paper.one, paper.other, paper.renamer), ("renaming", f, g, h))
        self.assertIsInstance(paper, Paper)
        self.assertIsNone(Renaming(renamer=h, other=g, one=f).wrong())

    def test_check_0(self):
        f, g, h = step("1 1"), step("1 1/2"), step("2 0")
        longer = step("0 0 1")
        for parts in ((longer, g, h), (f, longer, h), (f, g, longer), (longer, longer, h), (f, longer, longer)):
            self.assertEqual(Renaming(*parts).wrong(), (0, 0))

    def test_check_1(self):
        self.assertEqual(Renaming(step("1 1"), step("1 1/2"), step("0 0")).wrong(), (1, 1))
        self.assertEqual(Renaming(step("1 1"), step("2 1/2"), step("0 3")).wrong(), (1, 1))
        # Nothing behind anything is nothing, so putting in alone would be right.
        self.assertEqual(Renaming(step("0 0"), step("0 0"), step("0 0")).wrong(), (1, 1))

    def test_check_2(self):
        self.assertEqual(Renaming(step("2 0"), step("3 0"), step("1 0")).wrong(), (2, 1))
        self.assertEqual(Renaming(step("1 1"), step("1 1/2"), step("1 0")).wrong(), (2, 2))
        f = step("1 0 3 1 2")
        for place in range(2, 6):
            spoilt = poly(f)
            spoilt[place] += 1
            self.assertEqual(Renaming(f, as_step(spoilt), Step.still(5)).wrong(), (2, place))
            self.assertEqual(Renaming(as_step(spoilt), f, Step.still(5)).wrong(), (2, place))
        # The renamer is done behind the one step, and ahead of the other.
        f, h = step("2 1 0"), step("1 1 1")
        self.assertIsNone(Renaming(f, f.renamed(h), h).wrong())
        self.assertEqual(Renaming(f.renamed(h), f, h).wrong(), (2, 2))


class DefinedHereTest(unittest.TestCase):
    def test_names(self):
        for name in ("Renaming", "Family"):
            self.assertEqual(getattr(families, name).__module__, "creepclocks.families")
        self.assertEqual(Renaming.__bases__, (Paper,))
        self.assertIn("wrong", vars(Renaming))
        for name in ("places", "scale", "member", "base", "read", "__contains__", "__repr__"):
            self.assertIn(name, vars(Family))


if __name__ == "__main__":
    unittest.main()
