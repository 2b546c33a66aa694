"""What holds for the trials of desks and of books alike."""

from tests.support import Case


class Stop(Exception):
    """An error that the package does not know."""


class TrialCases:
    """Tests of what has `trial` and `tried`: a class below makes it, changes it and tells all that it is."""

    def setUp(self):
        self.owner = self.made()
        for _ in range(3):
            self.change(self.owner)
        self.before = self.told(self.owner)

    def changed(self, times):
        for _ in range(times):
            self.change(self.owner)
            self.assertNotEqual(self.told(self.owner), self.before)

    def assert_as_before(self):
        self.assertEqual(self.told(self.owner), self.before)

    def test_ended_well(self):
        with self.owner.trial() as held:
            self.assertIs(held, self.owner)
            self.assert_as_before()
            self.changed(4)
            self.assertEqual(self.owner.changes, 7)
        self.assert_as_before()

    def test_all_can_be_taken_back_behind_it(self):
        wanted = self.all_taken_back(self.made_again())
        with self.owner.trial():
            self.changed(2)
        self.assertEqual(self.all_taken_back(self.owner), wanted)

    def test_undo_within_goes_back_beyond_the_beginning(self):
        with self.owner.trial() as held:
            for _ in range(3):
                held.undo()
            self.assertEqual(held.changes, 0)
            self.change(held)
        self.assert_as_before()

    def test_ended_by_an_error(self):
        for error in (Stop("x"), KeyError("x"), StopIteration(), KeyboardInterrupt()):
            with self.assertRaises(error.__class__) as caught:
                with self.owner.trial():
                    self.changed(1)
                    raise error
            self.assertIs(caught.exception, error)
            self.assert_as_before()

    def test_ended_by_an_error_of_its_own(self):
        with self.assertRaises(Exception) as caught:
            with self.owner.trial() as held:
                self.changed(1)
                self.fail_at(held)
        self.assertIs(caught.exception.__class__, self.own_error)
        self.assert_as_before()

    def test_ended_by_a_return_and_a_break(self):
        def returning():
            with self.owner.trial():
                self.changed(2)
                return self.owner.changes
        self.assertEqual(returning(), 5)
        self.assert_as_before()
        for _ in range(3):
            with self.owner.trial():
                self.changed(1)
                continue
        self.assert_as_before()
        while True:
            with self.owner.trial():
                self.changed(1)
                break
        self.assert_as_before()

    def test_one_trial_entered_several_times(self):
        trial = self.owner.trial()
        for times in (1, 2, 5):
            with trial as held:
                self.assertIs(held, self.owner)
                self.changed(times)
            self.assert_as_before()
        self.change(self.owner)
        later = self.told(self.owner)
        with trial:
            self.change(self.owner)
        self.assertEqual(self.told(self.owner), later)

    def test_one_trial_entered_within_itself(self):
        trial = self.owner.trial()
        told = []
        with trial:
            self.changed(1)
            told.append(self.told(self.owner))
            with trial as held:
                self.assertIs(held, self.owner)
                self.changed(2)
                told.append(self.told(self.owner))
                with trial:
                    self.owner.undo()
                self.assertEqual(self.told(self.owner), told[1])
            self.assertEqual(self.told(self.owner), told[0])
            with trial:
                self.changed(1)
            self.assertEqual(self.told(self.owner), told[0])
        self.assert_as_before()

    def test_an_error_within_an_inner_one(self):
        trial, other = self.owner.trial(), self.owner.trial()
        with trial:
            self.changed(1)
            middle = self.told(self.owner)
            with self.assertRaises(Stop):
                with other, trial:
                    self.changed(1)
                    raise Stop()
            self.assertEqual(self.told(self.owner), middle)
        self.assert_as_before()

    def test_a_trial_that_is_not_entered_changes_nothing(self):
        self.owner.trial()
        self.change(self.owner)
        self.assertNotEqual(self.told(self.owner), self.before)

    def test_the_state_when_its_rows_begin_counts(self):
        trial = self.owner.trial()
        self.change(self.owner)
        later = self.told(self.owner)
        with trial:
            self.change(self.owner)
        self.assertEqual(self.told(self.owner), later)

    def test_tried_returns_what_the_function_returns(self):
        def action(held):
            self.assertIs(held, self.owner)
            self.changed(2)
            return [held.changes]
        self.assertEqual(self.owner.tried(action), [5])
        self.assert_as_before()
        self.assertIsNone(self.owner.tried(action=lambda held: self.change(held)))
        self.assert_as_before()
        value = object()
        self.assertIs(self.owner.tried(lambda held: value), value)

    def test_tried_passes_errors_on(self):
        error = Stop()

        def action(held):
            self.change(held)
            raise error
        with self.assertRaises(Stop) as caught:
            self.owner.tried(action)
        self.assertIs(caught.exception, error)
        self.assert_as_before()
        with self.assertRaises(self.own_error):
            self.owner.tried(action=self.fail_at)
        self.assert_as_before()

    def test_tried_within_one_another(self):
        def inner(held):
            self.change(held)
            return held.changes

        def outer(held):
            self.change(held)
            found = [held.changes, held.tried(inner), held.changes]
            with held.trial():
                self.change(held)
                found.append(held.tried(inner))
            return found + [held.changes]
        self.assertEqual(self.owner.tried(outer), [4, 5, 4, 6, 4])
        self.assert_as_before()

    def test_trials_equal_themselves_alone(self):
        trial = self.owner.trial()
        Case.assert_alone(self, [trial, self.owner.trial(), self.made().trial(), self.owner])
        with trial:
            self.assertIs(trial == trial, True)
