"""Sessions."""

import random
import unittest

from fewbounds.errors import BadName, BadSet, BadShelf, NotAllowed, NothingDone, NotInstalled
from fewbounds.plans import allows, is_broken
from fewbounds.sessions import Session
from fewbounds.shelves import Bound, Shelf

from samples import BAD_SETS, NO_SHELVES, ODD_VALUES, Refusing, Same
from samples import all_sets, backwards, example, random_shelf

NO_PACKAGES = ODD_VALUES + ("web", "old", "App", "apps", ("app",), ("app", 1), 0, 1, Same())
NO_ITEMS = tuple((package, 1) for package in NO_PACKAGES) + tuple(
    ("app", version) for version in ODD_VALUES + (0, 3, -1, "1", (1,), Same())) + (("web", 3), (1, "app"))


def three(bounds=("x", "y")):
    """A session on a shelf with needs in both directions, a broken pair and two bounds."""
    shelf = Shelf({"app": 3, "lib": 2, "web": 2}, {("app", 1): ("web", "lib"), ("web", 2): ("app",)},
                  [(("lib", 2), ("app", 2))], [("app",)],
                  {"x": Bound("app", (3,), "web", (1, 2)), "y": Bound("lib", (1,), "app", (2,))})
    return Session(shelf, bounds)


def state(session, names):
    """All that a session says of itself, with the names of its packages."""
    return (session.plan, session.missing, list(session.possible()), [name in session for name in names],
            [session[name] for name in names], len(session), bool(session))


class Model:
    """What a session should do, with a list of all its plans."""

    def __init__(self, shelf, bounds):
        self.shelf, self.bounds = shelf, bounds
        self.plans = [(0,) * len(shelf.packages)]

    def put(self, package, version):
        at = list(self.shelf.packages).index(package)
        return self.plans[-1][:at] + (version,) + self.plans[-1][at + 1:]

    def can(self, package, version):
        plan = self.put(package, version)
        return allows(self.shelf, self.bounds, plan) and not is_broken(self.shelf, plan)

    def state(self):
        chosen = dict(zip(self.shelf.packages, self.plans[-1]))
        needed = {name for item in chosen.items() if item[1] for name in self.shelf.needs(item)}
        items = [(name, version) for name, many in self.shelf.packages.items() for version in range(1, many + 1)]
        missing = [name for name in chosen if not chosen[name] and name in needed]
        return (self.plans[-1], missing, [item for item in items if chosen[item[0]] != item[1] and self.can(*item)],
                [version > 0 for version in chosen.values()], list(chosen.values()),
                sum(version > 0 for version in chosen.values()), not missing)


class SessionTest(Refusing, unittest.TestCase):
    def test_example(self):
        session = Session(example(), ("new",))
        self.assertEqual([session.install("app", 2), session.missing, bool(session), list(session.possible()),
                          session.install("lib", 2), "lib" in session, session["lib"], session.undo(), len(session)],
                         [(2, 0), ["lib"], False, [("app", 1), ("lib", 2)], (2, 2), True, 2, (2, 0), 1])

    def test_at_first(self):
        for session in (Session(example()), Session(example(), ("old",)), Session(shelf=example(), bounds=("old",))):
            self.assertEqual((session.plan, session.missing, len(session)), ((0, 0), [], 0))
            self.assertEqual([session["app"], session["lib"], "app" in session, bool(session)], [0, 0, False, True])

    def test_values_are_of_the_listed_kinds(self):
        session = three()
        self.assertIs(session.install("app", 1).__class__, tuple)
        self.assertIs(session.plan.__class__, tuple)
        self.assertIs(session.missing.__class__, list)
        self.assertIs(("app" in session).__class__, bool)
        self.assertIs(session["lib"].__class__, int)
        for item in session.possible():
            self.assertEqual((item.__class__, item[0].__class__, item[1].__class__), (tuple, str, int))

    def test_install_in_place_of_another_version(self):
        session = three()
        self.assertEqual([session.install("app", 1), session.install("app", 3), session.install("lib", 2)],
                         [(1, 0, 0), (3, 0, 0), (3, 2, 0)])
        self.assertEqual((session["app"], len(session)), (3, 2))

    def test_the_same_version_again_is_a_step(self):
        session = three()
        self.assertEqual([session.install("app", 1), session.install("app", 1), session.plan], [(1, 0, 0)] * 3)
        self.assertEqual([session.undo(), session.undo()], [(1, 0, 0), (0, 0, 0)])
        self.refused(NothingDone, session.undo)

    def test_what_violates_a_bound_is_refused(self):
        session = three()
        session.install("app", 3)
        self.refused(NotAllowed, session.install, "web", 1)
        self.refused(NotAllowed, session.install, "web", 2)
        session.install("lib", 1)
        self.refused(NotAllowed, session.install, "app", 2)
        self.assertEqual(session.install("app", 1), (1, 1, 0))
        self.assertEqual(session.install("web", 1), (1, 1, 1))
        self.refused(NotAllowed, session.install, "app", 3)

    def test_only_bounds_of_the_set_count(self):
        session = three(("y",))
        session.install("app", 3)
        self.assertEqual(session.install("web", 2), (3, 0, 2))
        session = three(())
        session.install("lib", 1)
        self.assertEqual(session.install("app", 2), (2, 1, 0))

    def test_what_breaks_is_refused(self):
        for bounds in ((), ("x", "y")):
            session = three(bounds)
            session.install("lib", 2)
            self.refused(NotAllowed, session.install, "app", 2)
            self.assertEqual(session.install("app", 3), (3, 2, 0))

    def test_a_broken_version_may_be_replaced(self):
        session = Session(example())
        session.install("lib", 1)
        self.refused(NotAllowed, session.install, "app", 2)
        session.install("lib", 2)
        self.assertEqual(session.install("app", 2), (2, 2))
        self.refused(NotAllowed, session.install, "lib", 1)

    def test_remove(self):
        session = three()
        session.install("app", 1)
        session.install("lib", 1)
        self.assertEqual([session.remove("lib"), session["lib"], "lib" in session], [(1, 0, 0), 0, False])
        self.assertEqual([session.remove("app"), session.missing, len(session)], [(0, 0, 0), [], 0])

    def test_a_package_removed_that_others_need(self):
        session = three()
        for package, version in (("app", 1), ("lib", 1), ("web", 1)):
            session.install(package, version)
        self.assertEqual((session.missing, bool(session)), ([], True))
        self.assertEqual((session.remove("lib"), session.missing, bool(session)), ((1, 0, 1), ["lib"], False))

    def test_missing_packages_in_order(self):
        session = three()
        session.install("app", 1)
        self.assertEqual(session.missing, ["lib", "web"])
        session.install("web", 2)
        session.remove("app")
        self.assertEqual((session.missing, bool(session)), (["app"], False))
        session.install("web", 1)
        self.assertEqual((session.missing, bool(session)), ([], True))

    def test_a_request_does_not_make_a_package_missing(self):
        session = Session(Shelf({"a": 1, "b": 1}, {}, [], [("a", "b")], {}))
        self.assertEqual((session.missing, bool(session)), ([], True))
        session.install("b", 1)
        self.assertEqual((session.missing, bool(session)), ([], True))

    def test_undo_takes_back_the_last_step_first(self):
        session = three()
        steps = [session.plan, session.install("app", 1), session.install("lib", 1), session.remove("app"),
                 session.install("lib", 2), session.install("lib", 2)]
        self.assertEqual([session.undo() for _ in steps[1:]], steps[-2::-1])
        self.refused(NothingDone, session.undo)
        self.assertEqual(session.plan, (0, 0, 0))

    def test_steps_after_undo(self):
        session = three()
        session.install("app", 1)
        session.install("lib", 1)
        session.undo()
        self.assertEqual(session.install("web", 2), (1, 0, 2))
        self.assertEqual([session.undo(), session.undo()], [(1, 0, 0), (0, 0, 0)])
        self.refused(NothingDone, session.undo)

    def test_undo_can_be_done_after_a_refused_undo(self):
        session = three()
        self.refused(NothingDone, session.undo)
        session.install("app", 1)
        self.assertEqual(session.undo(), (0, 0, 0))

    def test_refused_steps_change_nothing(self):
        session = three()
        session.install("lib", 2)
        names = ("app", "lib", "web")
        before = state(session, names)
        for error, call, words in ((NotAllowed, session.install, ("app", 2)), (BadName, session.install, ("app", 4)),
                                   (BadName, session.remove, ("old",)), (NotInstalled, session.remove, ("web",)),
                                   (BadName, session.install, (None, None)), (BadName, session.remove, ([],))):
            self.refused(error, call, *words)
            self.assertEqual(state(session, names), before)
        self.assertEqual(session.undo(), (0, 0, 0))
        self.refused(NothingDone, session.undo)

    def test_possible_items(self):
        session = three()
        items = [("app", 1), ("app", 2), ("app", 3), ("lib", 1), ("lib", 2), ("web", 1), ("web", 2)]
        self.assertEqual(list(session.possible()), items)
        session.install("app", 2)
        self.assertEqual(list(session.possible()), [("app", 1), ("app", 3), ("web", 1), ("web", 2)])
        session.install("web", 1)
        self.assertEqual(list(session.possible()), [("app", 1), ("web", 2)])

    def test_possible_is_for_the_plan_when_the_first_item_is_requested(self):
        session = three()
        found = session.possible()
        self.assertIs(iter(found), found)
        session.install("app", 2)
        self.assertEqual(next(found), ("app", 1))
        session.install("app", 3)
        self.assertEqual(next(found), ("app", 3))
        session.undo()
        session.remove("app")
        self.assertEqual(list(found), [("web", 1), ("web", 2)])

    def test_two_generators_do_not_disturb_each_other(self):
        session = Session(example())
        one = session.possible()
        self.assertEqual(next(one), ("app", 1))
        session.install("app", 2)
        self.assertEqual(list(session.possible()), [("app", 1), ("lib", 2)])
        self.assertEqual(list(one), [("app", 2), ("lib", 1), ("lib", 2)])

    def test_sessions_do_not_share_steps(self):
        shelf = example()
        one, two = Session(shelf), Session(shelf)
        one.install("app", 1)
        self.assertEqual((one.plan, two.plan), ((1, 0), (0, 0)))
        self.refused(NothingDone, two.undo)

    def test_returned_lists_are_new(self):
        session = three()
        session.install("app", 1)
        session.missing.clear()
        self.assertEqual(session.missing, ["lib", "web"])

    def test_a_session_changes_no_shelf(self):
        shelf = backwards()
        session = Session(shelf, ("a",))
        session.install("app", 1)
        session.remove("app")
        self.assertEqual(shelf, backwards())

    def test_properties_cannot_be_set(self):
        for name in ("plan", "missing"):
            with self.assertRaises(AttributeError):
                setattr(example_session(), name, None)

    def test_many_steps_on_many_shelves(self):
        done = {"install": 0, "remove": 0, "undo": 0, "refused": 0}
        for seed in range(80):
            shelf, _ = random_shelf(seed)
            source = random.Random(seed)
            bounds = source.choice(all_sets(shelf))
            session, model = Session(shelf, bounds), Model(shelf, bounds)
            for _ in range(25):
                done[self.step(session, model, source)] += 1
                self.assertEqual(state(session, list(shelf.packages)), model.state())
        self.assertGreater(min(done.values()), 100)

    def step(self, session, model, source):
        """Do one step with both, and say which one."""
        package = source.choice(list(model.shelf.packages))
        version = source.randint(1, model.shelf.packages[package])
        word = source.choice(("install", "install", "remove", "undo"))
        if word == "install" and not model.can(package, version):
            self.refused(NotAllowed, session.install, package, version)
        elif word == "remove" and not model.plans[-1][list(model.shelf.packages).index(package)]:
            self.refused(NotInstalled, session.remove, package)
        elif word == "undo" and len(model.plans) == 1:
            self.refused(NothingDone, session.undo)
        elif word == "undo":
            model.plans.pop()
            self.assertEqual(session.undo(), model.plans[-1])
            return word
        else:
            model.plans.append(model.put(package, version if word == "install" else 0))
            told = session.install(package, version) if word == "install" else session.remove(package)
            self.assertEqual(told, model.plans[-1])
            return word
        return "refused"


def example_session():
    session = Session(example())
    session.install("app", 1)
    return session


class WrongInputTest(Refusing, unittest.TestCase):
    def test_bad_shelves_and_sets(self):
        for shelf in NO_SHELVES:
            self.assertIsNone(self.refused(BadShelf, Session, shelf).part)
        for bounds in BAD_SETS:
            self.refused(BadSet, Session, example(), bounds)
        self.refused(BadShelf, Session, None, None)

    def test_what_is_no_item(self):
        for package, version in NO_ITEMS:
            self.refused(BadName, example_session().install, package, version)

    def test_what_is_no_package(self):
        for package in NO_PACKAGES:
            self.refused(BadName, example_session().remove, package)
            self.refused(BadName, lambda session, name: session[name], example_session(), package)
            self.refused(BadName, lambda session, name: name in session, example_session(), package)

    def test_limits_of_versions(self):
        session = three(())
        self.assertEqual([session.install("app", 3), session.install("app", 1)], [(3, 0, 0), (1, 0, 0)])
        for package, version in (("app", 0), ("app", 4), ("lib", 3), ("lib", -1), ("app", True)):
            self.refused(BadName, session.install, package, version)

    def test_the_error_that_is_documented_first(self):
        session = three()
        session.install("lib", 2)
        self.refused(BadName, session.install, "app", 4)
        self.refused(BadName, session.install, "old", 2)
        self.refused(BadName, session.remove, "x")
        self.refused(NotInstalled, session.remove, "web")

    def test_a_session_is_not_iterated_over(self):
        with self.assertRaises(TypeError):
            list(example_session())


if __name__ == "__main__":
    unittest.main()
