import unittest

from fittingpasts.errors import InvalidName, OutOfRange, UnknownName
from fittingpasts.stays import Stay
from fittingpasts.staytree import StayTree
from tests.helpers import BIG, Case, Numbers

NAMES = ("ann", "ben", "cid", "dot", "eve", "fay", "gus", "hal")


def all_nodes(low, high):
    """All nodes below a stretch with their parents, the stretch and the first half first."""
    rows = [((low, high), None)]
    if low < high:
        middle = (low + high) // 2
        for half in ((low, middle), (middle + 1, high)):
            rows += [(node, parent or (low, high)) for node, parent in all_nodes(*half)]
    return rows


def inside(node, stay):
    return stay.come <= node[0] and node[1] <= stay.go


def nodes_by_the_words(last, stay):
    return [
        node for node, parent in all_nodes(0, last)
        if inside(node, stay) and (parent is None or not inside(parent, stay))
    ]


def filled_tree(last, stays):
    tree = StayTree(last)
    for person, stay in stays.items():
        tree[person] = stay
    return tree


def samples():
    numbers = Numbers(23)
    rows = [(0, {}), (0, {"ann": Stay(0, 0)}), (9, {})]
    for _ in range(60):
        last = numbers.between(0, 20)
        stays = {}
        for person in NAMES[::-1][:numbers.between(1, 8)]:
            come = numbers.between(0, last)
            stays[person] = Stay(come, numbers.between(come, last))
        rows.append((last, stays))
    return rows


SAMPLES = samples()


class MakingTest(Case):
    def test_example_of_the_interface(self):
        tree = StayTree(7)
        self.assertIsNone(tree.keep("ann", Stay(1, 4)))
        found = [tree.nodes_of("ann"), tree.path(4), tree.who_on(4), tree.crowd()]
        expected = [[(1, 1), (2, 3), (4, 4)], [(0, 7), (4, 7), (4, 5), (4, 4)], ["ann"], (1, 1)]
        self.assertEqual(found, expected)

    def test_last(self):
        for last in (0, 1000):
            self.assertEqual(StayTree(last).last, last)
        self.assertEqual(StayTree(last=7).size, 0)
        for last in (-1, 1001, BIG, -BIG):
            self.assert_fails(OutOfRange(last), lambda: StayTree(last))

    def test_a_tree_without_stays(self):
        tree = StayTree(5)
        self.assertEqual((tree.size, tree.crowd(), tree.shape(), tree.who_on(3)), (0, (0, 0), [], []))
        self.assertEqual(tree.throughout(Stay(0, 5)), [])
        self.assertNotIn("ann", tree)
        self.assertEqual(tree.twin().shape(), [])

    def test_keeping(self):
        tree = StayTree(9)
        tree["ann"] = Stay(1, 4)
        self.assertIsNone(tree.keep(person="ben", stay=Stay(0, 9)))
        self.assertEqual((tree["ann"], tree["ben"], tree.size), (Stay(1, 4), Stay(0, 9), 2))
        self.assertIs("ann" in tree, True)
        self.assertIs("cid" in tree, False)
        self.assertIs("" in tree, False)
        with self.assertRaises(TypeError):
            list(tree)

    def test_a_later_stay_takes_the_place_of_the_earlier_one(self):
        tree = StayTree(9)
        tree["ann"] = Stay(1, 4)
        tree["ben"] = Stay(3, 4)
        tree["ann"] = Stay(6, 8)
        self.assertEqual((tree["ann"], tree.size), (Stay(6, 8), 2))
        self.assertEqual([tree.who_on(day) for day in (1, 4, 6)], [[], ["ben"], ["ann"]])
        self.assertEqual(tree.shape(), filled_tree(9, {"ann": Stay(6, 8), "ben": Stay(3, 4)}).shape())

    def test_wrong_stays_and_names(self):
        tree = StayTree(9)
        tree["ann"] = Stay(1, 4)
        before = tree.shape()
        for name in ("", "or", "Ann", "ann+", "anna-lisa", "annabella"):
            for stay in (Stay(1, 4), Stay(-1, 10)):
                self.assert_fails(InvalidName(name), lambda: tree.keep(name, stay))
                self.assert_fails(InvalidName(name), lambda: tree.__setitem__(name, stay))
        for stay, day in ((Stay(-1, 10), -1), (Stay(0, 10), 10), (Stay(-BIG, 3), -BIG), (Stay(10, BIG), BIG)):
            for person in ("ann", "ben"):
                self.assert_fails(OutOfRange(day), lambda: tree.keep(person, stay))
                self.assert_fails(OutOfRange(day), lambda: tree.__setitem__(person, stay))
            self.assert_fails(OutOfRange(day), lambda: tree.throughout(stay))
        self.assertEqual((tree.shape(), tree.size, tree["ann"]), (before, 1, Stay(1, 4)))

    def test_leaving(self):
        tree = filled_tree(9, {"ann": Stay(1, 4), "ben": Stay(3, 9)})
        self.assertEqual(tree.leave("ann"), Stay(1, 4))
        self.assertEqual((tree.size, "ann" in tree), (1, False))
        self.assertEqual(tree.shape(), filled_tree(9, {"ben": Stay(3, 9)}).shape())
        for call in (lambda: tree["ann"], lambda: tree.leave("ann"), lambda: tree.nodes_of("ann")):
            self.assert_fails(UnknownName("ann"), call)
        self.assert_fails(UnknownName("or"), lambda: tree["or"])
        tree.leave("ben")
        self.assertEqual((tree.size, tree.shape(), tree.crowd()), (0, [], (0, 0)))

    def test_a_stay_that_is_changed_later_changes_no_tree(self):
        tree, stay = StayTree(9), Stay(1, 4)
        tree["ann"] = stay
        stay.go = 9
        tree["ann"].come = 0
        self.assertEqual(tree["ann"], Stay(1, 4))


class AskingTest(Case):
    def test_nodes_and_shape(self):
        for last, stays in SAMPLES:
            tree = filled_tree(last, stays)
            for person, stay in stays.items():
                self.assertEqual(tree.nodes_of(person), sorted(nodes_by_the_words(last, stay)))
            shape = []
            for node, _ in all_nodes(0, last):
                people = [name for name in sorted(stays) if node in nodes_by_the_words(last, stays[name])]
                if people:
                    shape.append((*node, tuple(people)))
            self.assertEqual(tree.shape(), shape)

    def test_days_against_the_stays(self):
        for last, stays in SAMPLES:
            tree = filled_tree(last, stays)
            crowds = []
            for day in range(last + 1):
                there = [name for name in sorted(stays) if day in stays[name]]
                self.assertEqual(tree.who_on(day), there)
                crowds.append(len(there))
            self.assertEqual(tree.crowd(), (max(crowds), crowds.index(max(crowds))))
            self.assertEqual(tree.size, len(stays))

    def test_throughout(self):
        for last, stays in SAMPLES:
            tree = filled_tree(last, stays)
            for come in range(last + 1):
                for go in range(come, last + 1):
                    there = [name for name in sorted(stays) if stays[name].come <= come and go <= stays[name].go]
                    self.assertEqual(tree.throughout(Stay(come, go)), there)

    def test_path(self):
        for last in (0, 1, 2, 9, 1000):
            tree = StayTree(last)
            for day in range(last + 1):
                path = tree.path(day)
                self.assertEqual((path[0], path[-1]), ((0, last), (day, day)))
                for (low, high), half in zip(path, path[1:]):
                    middle = (low + high) // 2
                    self.assertEqual(half, (low, middle) if day <= middle else (middle + 1, high))

    def test_days_beyond_the_ends(self):
        tree = filled_tree(9, {"ann": Stay(0, 9)})
        self.assertEqual((tree.who_on(0), tree.who_on(9)), (["ann"], ["ann"]))
        for day in (-1, 10, BIG, -BIG):
            self.assert_fails(OutOfRange(day), lambda: tree.path(day))
            self.assert_fails(OutOfRange(day), lambda: tree.who_on(day))

    def test_the_greatest_tree(self):
        tree = filled_tree(1000, {"ann": Stay(1, 999), "ben": Stay(0, 1000), "cid": Stay(500, 500)})
        self.assertEqual(tree.crowd(), (3, 500))
        self.assertEqual(tree.nodes_of("ben"), [(0, 1000)])
        self.assertEqual(tree.shape()[0], (0, 1000, ("ben",)))
        self.assertEqual(tree.nodes_of("ann"), sorted(nodes_by_the_words(1000, Stay(1, 999))))
        self.assertEqual(tree.who_on(500), ["ann", "ben", "cid"])

    def test_twin(self):
        tree = filled_tree(9, {"ann": Stay(1, 4), "ben": Stay(3, 9)})
        before = tree.shape()
        twin = tree.twin()
        self.assertEqual((twin.last, twin.shape(), twin["ann"]), (9, before, Stay(1, 4)))
        twin["ann"] = Stay(0, 9)
        twin.leave("ben")
        self.assertEqual((tree.shape(), tree["ann"], tree.size), (before, Stay(1, 4), 2))
        changed = twin.shape()
        tree["cid"] = Stay(0, 0)
        tree.leave("ann")
        self.assertEqual((twin.shape(), twin.size, "cid" in twin), (changed, 1, False))

    def test_lists_are_new(self):
        tree = filled_tree(9, {"ann": Stay(1, 4), "ben": Stay(3, 9)})
        for call in (
            lambda: tree.nodes_of("ann"), lambda: tree.path(4), lambda: tree.who_on(4),
            lambda: tree.throughout(Stay(3, 4)), tree.shape,
        ):
            before = list(call())
            call().clear()
            self.assertEqual(call(), before)


if __name__ == "__main__":
    unittest.main()
