"""ignorelines/evidence.py, and what all results have in common ([1])."""

from unittest import TestCase

from ignorelines.deciding import Agree, Differ
from ignorelines.evidence import Evidence
from ignorelines.families import Family
from ignorelines.shortening import Shortest

STATE = (((0,), (0, 1)), ((0,),))
OTHER_STATE = (((0,), ()), ((0,),))


def results():
    """Results that are all different; new ones with each call."""
    return [
        Evidence(), Agree([]), Agree([STATE]), Agree([STATE, STATE]), Agree([OTHER_STATE]), Differ("a"), Differ("a/"),
        Family([], []), Family([(0,)], []), Family([], ["a"]), Family([(0,), ()], ["a"]), Family([(0,)], ["b"]),
        Shortest((), []), Shortest((0,), []), Shortest((0,), ["a"]), Shortest((0, 1), ["a"]),
    ]


class TestNames(TestCase):
    def test_subclasses(self):
        for made in (Agree, Differ, Family, Shortest):
            self.assertTrue(issubclass(made, Evidence))

    def test_names(self):
        names = [made.NAME for made in (Evidence, Agree, Differ, Family, Shortest)]
        self.assertEqual(len(set(names)), 5)
        for name in names:
            self.assertIs(type(name), str)

    def test_names_of_objects(self):
        self.assertEqual(Agree([]).NAME, Agree.NAME)
        self.assertEqual(Shortest((), []).NAME, Shortest.NAME)


class TestFields(TestCase):
    def test_fields(self):
        self.assertEqual(Evidence().fields, [])
        self.assertEqual(Agree([STATE]).fields, [[STATE]])
        self.assertEqual(Differ("a/b").fields, ["a/b"])
        self.assertEqual(Family([(), (0,)], ["a"]).fields, [[(), (0,)], ["a"]])
        self.assertEqual(Shortest((0, 2), ["a", "b/"]).fields, [(0, 2), ["a", "b/"]])

    def test_attributes(self):
        self.assertEqual(Agree([STATE]).states, [STATE])
        self.assertEqual(Differ("a/b").path, "a/b")
        family, shortest = Family([(0,)], ["a"]), Shortest((0,), ["b"])
        self.assertEqual([family.sets, family.doubts], [[(0,)], ["a"]])
        self.assertEqual([shortest.found, shortest.doubts], [(0,), ["b"]])

    def test_parameters_by_name(self):
        self.assertEqual(Agree(states=[STATE]), Agree([STATE]))
        self.assertEqual(Differ(path="a"), Differ("a"))
        self.assertEqual(Family(sets=[(0,)], doubts=["a"]), Family([(0,)], ["a"]))
        self.assertEqual(Shortest(found=(0,), doubts=["a"]), Shortest((0,), ["a"]))

    def test_fields_follow_the_attributes(self):
        agree, differ = Agree([STATE]), Differ("a")
        agree.states.append(OTHER_STATE)
        differ.path = "b"
        self.assertEqual([agree.fields, differ.fields], [[[STATE, OTHER_STATE]], ["b"]])
        agree.states = []
        self.assertEqual(agree.fields, [[]])
        family, shortest = Family([(0,)], ["a"]), Shortest((0,), ["b"])
        family.sets = [()]
        family.doubts[0] = "c"
        shortest.found = ()
        shortest.doubts.clear()
        self.assertEqual([family.fields, shortest.fields], [[[()], ["c"]], [(), []]])

    def test_fields_are_new(self):
        for result in results():
            before = result.fields
            told = result.fields
            for field in told:
                if isinstance(field, list):
                    field.append("x")
            told.append("x")
            self.assertEqual(result.fields, before)

    def test_arguments_are_not_kept(self):
        states, sets, doubts = [STATE], [(0,)], ["a"]
        made = [Agree(states), Family(sets, doubts), Shortest((0,), doubts)]
        states.append(OTHER_STATE)
        sets.clear()
        doubts[0] = "b"
        self.assertEqual(made, [Agree([STATE]), Family([(0,)], ["a"]), Shortest((0,), ["a"])])
        made[0].states.append(STATE)
        made[1].sets.append(())
        made[1].doubts.append("c")
        self.assertEqual([states, sets, doubts], [[STATE, OTHER_STATE], [], ["b"]])


class TestEqual(TestCase):
    def test_equal_if_names_and_fields_are(self):
        for k, one in enumerate(results()):
            for n, other in enumerate(results()):
                self.assertIs(one == other, k == n, (one.fields, other.fields))
                self.assertIs(one != other, k != n)

    def test_the_same_fields_with_another_name(self):
        self.assertNotEqual(Family((0,), ["a"]), Shortest((0,), ["a"]))
        self.assertNotEqual(Agree("a"), Differ("a"))

    def test_current_fields_count(self):
        one, other = Differ("a"), Differ("b")
        other.path = "a"
        self.assertEqual(one, other)
        one.path = "c"
        self.assertNotEqual(one, other)

    def test_order_counts(self):
        self.assertNotEqual(Agree([STATE, OTHER_STATE]), Agree([OTHER_STATE, STATE]))

    def test_booleans_are_not_integers(self):
        self.assertNotEqual(Shortest((0, 1), []), Shortest((0, True), []))
        self.assertNotEqual(Family([(1,)], []), Family([(True,)], []))
        self.assertEqual(Shortest((0, True), []), Shortest((0, True), []))

    def test_lists_are_not_tuples(self):
        self.assertNotEqual(Shortest((0, 1), []), Shortest([0, 1], []))

    def test_other_values(self):
        for result in results():
            for value in (None, True, 0, "", result.NAME, result.fields, tuple(result.fields), [], object(), type(result)):
                self.assertIs(result == value, False)
                self.assertIs(result != value, True)
