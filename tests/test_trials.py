"""What stands behind the block of a trial: kept or not, left by an error or not, alone or in another one."""

from hungfacts.errors import NoRun, NothingToRedo
from hungfacts.house import House
from tests.test_house import A, B, C, HouseTest, more_told, some, texts
from tests.test_house_runs import G, LONG, ROOT, stand

SHOWS_1, SHOWS_2 = B.replace("show q", "show 1"), B.replace("show q", "show 2")
OTHER_C = C.replace("ON", "OFF")


class Left(Exception):
    """An error that leaves the block of a trial."""


class TestTrialsLeft(HouseTest):
    def setUp(self):
        self.house = House(some(A, B))
        self.house.edit(texts(C))
        self.house.edit(texts(OTHER_C))
        self.house.undo()
        self.before = more_told(self.house)

    def look_taken_back(self):
        """The house is as it was, and so is what can be redone and undone."""
        self.look(self.house, some(A, B, C))
        self.assertEqual(more_told(self.house), self.before)
        self.house.redo()
        self.look(self.house, some(A, B, OTHER_C))
        self.assertRaises(NothingToRedo, self.house.redo)
        for newer in (some(A, B, C), some(A, B)):
            self.house.undo()
            self.look(self.house, newer)
        self.assertEqual(self.house.edits, 0)

    def look_standing(self, edits, *newer):
        """The house has come to newer[0], the others are behind its undos, and nothing can be redone."""
        self.assertRaises(NothingToRedo, self.house.redo)
        self.assertEqual(self.house.edits, edits)
        self.look(self.house, newer[0])
        for each in newer[1:]:
            self.house.undo()
            self.look(self.house, each)

    def test_kept(self):
        with self.house.trial() as trial:
            self.house.edit(texts(SHOWS_1))
            self.assertIsNone(trial.keep())
            self.house.edit((), drops=("c",))
        self.look_standing(3, some(A, SHOWS_1), some(A, SHOWS_1, C), some(A, B, C), some(A, B))

    def test_kept_twice(self):
        with self.house.trial() as trial:
            trial.keep()
            self.house.edit(texts(SHOWS_1))
            trial.keep()
        self.look_standing(2, some(A, SHOWS_1, C), some(A, B, C))

    def test_not_kept(self):
        with self.house.trial():
            self.house.edit(texts(SHOWS_1))
            self.house.edit((), drops=("c",))
            self.look(self.house, some(A, SHOWS_1))
        self.look_taken_back()

    def test_kept_and_left_by_an_error(self):
        error = Left()
        with self.assertRaises(Left) as caught:
            with self.house.trial() as trial:
                self.house.edit(texts(SHOWS_1))
                trial.keep()
                raise error
        self.assertIs(caught.exception, error)
        self.look_taken_back()

    def test_not_kept_and_left_by_an_error(self):
        error = Left()
        with self.assertRaises(Left) as caught:
            with self.house.trial():
                self.house.edit(texts(SHOWS_1))
                raise error
        self.assertIs(caught.exception, error)
        self.look_taken_back()

    def test_inner_kept_outer_not(self):
        with self.house.trial():
            self.house.edit(texts(SHOWS_1))
            with self.house.trial() as inner:
                self.house.edit(texts(SHOWS_2))
                inner.keep()
            self.look(self.house, some(A, SHOWS_2, C))
            self.assertEqual(self.house.edits, 3)
        self.look_taken_back()

    def test_outer_kept_inner_not(self):
        with self.house.trial() as outer:
            self.house.edit(texts(SHOWS_1))
            middle = more_told(self.house)
            with self.house.trial():
                self.house.edit(texts(SHOWS_2))
                self.house.edit((), drops=("c",))
            self.assertEqual(more_told(self.house), middle)
            outer.keep()
        self.look_standing(2, some(A, SHOWS_1, C), some(A, B, C), some(A, B))

    def test_both_kept_and_inner_left_by_an_error(self):
        with self.house.trial() as outer:
            outer.keep()
            self.house.edit(texts(SHOWS_1))
            with self.assertRaises(Left):
                with self.house.trial() as inner:
                    inner.keep()
                    self.house.edit(texts(SHOWS_2))
                    raise Left()
        self.look_standing(2, some(A, SHOWS_1, C), some(A, B, C))

    def test_both_kept_and_left_by_an_error(self):
        with self.assertRaises(Left):
            with self.house.trial() as outer:
                outer.keep()
                self.house.edit(texts(SHOWS_1))
                with self.house.trial() as inner:
                    inner.keep()
                    self.house.edit(texts(SHOWS_2))
                    raise Left()
        self.look_taken_back()


class TestRunsBehindTrials(HouseTest):
    """The same of the runs of a house: outer and inner tell whether the trials are kept, wrong whether an error leaves them."""

    def go_on(self, house):
        """Step on in the first run, and begin another one."""
        house.stepper(0).step()
        house.start(ROOT, (1,))

    def behind(self, outer, inner, wrong):
        """Where the runs stand at first, in the outer block, in the inner one, and behind both."""
        house = House(some(LONG, G))
        house.start(ROOT, (7,))
        found = [stand(house)]
        try:
            with house.trial() as one:
                if outer:
                    one.keep()
                self.go_on(house)
                found.append(stand(house))
                with house.trial() as other:
                    if inner:
                        other.keep()
                    self.go_on(house)
                    found.append(stand(house))
                    if wrong:
                        raise Left()
        except Left:
            self.assertTrue(wrong)
        last = stand(house)
        self.assertRaises(NoRun, house.stepper, len(last))
        self.assertEqual(house.start(ROOT, (2,)), len(last))
        return found, last

    def test_runs(self):
        for outer, inner, wrong, place in ((True, True, False, 2), (True, False, False, 1), (False, True, False, 0),
                                           (False, False, False, 0), (True, True, True, 0), (False, True, True, 0)):
            with self.subTest(outer=outer, inner=inner, wrong=wrong):
                found, last = self.behind(outer, inner, wrong)
                self.assertEqual([len(each) for each in found], [1, 2, 3])
                self.assertEqual(last, found[place])
