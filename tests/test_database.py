"""Points 86 to 91, and hornbook/database.py and hornbook/updates.py."""

import unittest

from helper import BUILT_IN, CONTROL, a, f, i, random_term, read, seeded, shown, sized, v
from hornbook.database import Database
from hornbook.errors import BadClause, Closed, Forgotten
from hornbook.terms import renumber
from hornbook.updates import play

BAD_CLAUSES = [v(0), i(3), f(":-", v(0), a("p")), f(":-", i(1), a("p")), sized(201), f(":-", a("p"), sized(199))]
BAD_CLAUSES += [f(name, *[v(k) for k in range(arity)]) for name, arity in CONTROL + BUILT_IN]
BAD_CLAUSES += [f(":-", f(name, *[v(k) for k in range(arity)]), a("p")) for name, arity in CONTROL + BUILT_IN]


class Model:
    """A plain list of clauses, each with its generations, word by word of points 86 to 90."""

    def __init__(self):
        self.generation, self.rows, self.calls, self.opened = 0, [], {}, 0

    def add(self, clause, first):
        head = clause
        if clause[0] == ("f", ":-", 2):
            head = clause[1:]
        self.generation += 1
        row = {"number": len(self.rows), "clause": renumber(clause), "name": head[0][1:], "from": self.generation,
               "to": None, "place": (-1 if first else 1) * (len(self.rows) + 1), "stored": True}
        self.rows.append(row)
        return row["number"]

    def erase(self, number):
        if not 0 <= number < len(self.rows) or self.rows[number]["to"] is not None:
            return False
        self.generation += 1
        self.rows[number]["to"] = self.generation
        return True

    def existing(self, name, at):
        rows = [row for row in self.rows
                if row["name"] == name and row["from"] <= at and (row["to"] is None or at < row["to"])]
        return sorted(rows, key=lambda row: row["place"])

    def clauses(self, name, at=None):
        at = self.generation if at is None else at
        if not 0 <= at <= self.generation:
            return "Forgotten"
        rows = self.existing(name, at)
        if not all(row["stored"] for row in rows):
            return "Forgotten"
        return [(row["number"], row["clause"]) for row in rows]

    def predicates(self):
        return sorted({row["name"] for row in self.rows if row["to"] is None})

    def open(self, name, erasing):
        self.calls[self.opened] = (self.existing(name, self.generation), erasing)
        self.opened += 1
        return self.opened - 1

    def next(self, call):
        if call not in self.calls:
            return "Closed"
        rows, erasing = self.calls[call]
        while rows:
            row = rows.pop(0)
            if not erasing or row["to"] is None:
                assert row["stored"]
                return row["number"], row["clause"]
        del self.calls[call]
        return None

    def close(self, call):
        if call not in self.calls:
            return "Closed"
        del self.calls[call]
        return None

    def sweep(self):
        count = 0
        for row in self.rows:
            needed = any(row in rows and not erasing for rows, erasing in self.calls.values())
            if row["stored"] and row["to"] is not None and not needed:
                row["stored"] = False
                count += 1
        return count

    def stored(self):
        return sum(row["stored"] for row in self.rows)

    def update(self, update):
        word = update[0]
        if word == "add":
            return "BadClause" if update[1] in BAD_CLAUSES else self.add(update[1], update[2])
        if word == "erase":
            return self.erase(update[1])
        if word == "open":
            return self.open(update[1:3], update[3])
        if word == "next":
            return self.next(update[1])
        return self.close(update[1]) if word == "close" else self.sweep()


def performed(database, update):
    """The result of an update by the methods of a database."""
    word = update[0]
    try:
        if word == "add":
            return database.add(update[1], first=update[2])
        if word == "erase":
            return database.erase(update[1])
        if word == "open":
            return database.open_call(update[1], update[2], erasing=update[3])
        if word == "next":
            return database.next_clause(update[1])
        return database.close_call(update[1]) if word == "close" else database.sweep()
    except (Closed, BadClause) as error:
        return type(error).__name__


def random_update(source, numbers, calls):
    kind = source.randrange(22)
    name, arity = source.choice((("p", 1), ("q", 2), ("p", 0), ("r", 1)))
    if kind < 6:
        head = f(name, *[random_term(source, 2, ["a"]) for _ in range(arity)])
        clause = f(":-", head, random_term(source, 3, ["a", "b"])) if source.random() < 0.4 else head
        return ("add", source.choice(BAD_CLAUSES) if source.random() < 0.05 else clause, source.random() < 0.4)
    if kind < 10:
        return ("erase", source.randrange(-1, numbers + 2))
    if kind < 13:
        return ("open", name, arity, source.random() < 0.4)
    if kind < 19:
        return ("next", source.randrange(-1, calls + 2))
    return ("close", source.randrange(-1, calls + 1)) if kind < 20 else ("sweep",)


def random_updates(source, count):
    return [random_update(source, count // 4, count // 6) for _ in range(count)]


def listed(database, name, arity, **more):
    """The numbers and the clauses of a predicate as text."""
    return [(number, shown(clause)) for number, clause in database.clauses(name, arity, **more)]


def state_of(database):
    """Everything that can be asked of a database without a change of it."""
    found = [database.generation, database.predicates(), database.stored()]
    for at in range(database.generation + 1):
        for name, arity in (("p", 1), ("q", 2), ("p", 0), ("r", 1)):
            try:
                found.append(database.clauses(name, arity, at=at))
            except Forgotten:
                found.append("Forgotten")
    return found


class Methods(unittest.TestCase):

    def test_a_new_database(self):
        database = Database()
        self.assertEqual((database.generation, database.stored(), database.predicates()), (0, 0, []))
        self.assertEqual(database.clauses("p", 1), [])
        self.assertEqual(database.clauses("p", 1, at=0), [])
        self.assertEqual(database.sweep(), 0)

    def test_numbers_and_generations(self):
        database = Database()
        self.assertEqual([database.add(read(text)) for text in ("p(X)", "q", "p(1) :- q")], [0, 1, 2])
        self.assertEqual(database.generation, 3)
        self.assertIs(database.erase(1), True)
        self.assertEqual(database.generation, 4)
        # No number is used twice.
        self.assertEqual(database.add(a("q")), 3)
        self.assertIs(database.erase(3), True)
        database.sweep()
        self.assertEqual(database.add(a("q")), 4)
        self.assertEqual(database.generation, 7)
        self.assertEqual(listed(database, "p", 1), [(0, "p(_0)"), (2, "p(1) :- q")])
        self.assertEqual(listed(database, "q", 0), [(4, "q")])

    def test_clauses_are_returned_as_they_were_added(self):
        database = Database()
        for clause in (f("p", v(7), v(3), v(7)), f(":-", f("p", v(1), v(2), v(0)), f(",", v(0), a("!"))),
                       f(":-", f("p", i(1), i(2), i(3)), a("true"))):
            number = database.add(clause)
            self.assertEqual(database.clauses("p", 3)[-1], (number, renumber(clause)))
        self.assertEqual(database.clauses("p", 3)[2][1][0], ("f", ":-", 2))
        self.assertIs(type(database.clauses("p", 3)[0]), tuple)

    def test_the_order(self):
        database = Database()
        for number, first in enumerate((False, True, False, True, True, False)):
            self.assertEqual(database.add(f("p", i(number)), first=first), number)
        order = [4, 3, 1, 0, 2, 5]
        self.assertEqual([number for number, _ in database.clauses("p", 1)], order)
        database.erase(1)
        database.erase(4)
        database.sweep()
        self.assertEqual([number for number, _ in database.clauses("p", 1)], [3, 0, 2, 5])
        database.add(f("p", i(6)), first=True)
        database.add(f("p", i(7)))
        self.assertEqual([number for number, _ in database.clauses("p", 1)], [6, 3, 0, 2, 5, 7])

    def test_erasing_unknown_and_erased_numbers(self):
        database = Database()
        database.add(a("p"))
        for number in (1, -1, 10 ** 20):
            self.assertIs(database.erase(number), False)
        self.assertIs(database.erase(0), True)
        self.assertIs(database.erase(0), False)
        database.sweep()
        self.assertIs(database.erase(0), False)
        self.assertEqual(database.generation, 2)

    def test_earlier_generations(self):
        database = Database()
        database.add(read("p(1)"))
        database.add(read("p(2)"), first=True)
        database.erase(0)
        database.add(read("p(3)"))
        rows = [[], ["p(1)"], ["p(2)", "p(1)"], ["p(2)"], ["p(2)", "p(3)"]]
        for at, row in enumerate(rows):
            self.assertEqual([text for _, text in listed(database, "p", 1, at=at)], row)
        self.assertEqual(database.clauses("p", 1), database.clauses("p", 1, at=4))
        for at in (-1, 5, -10 ** 20, 10 ** 20):
            for name in ("p", "none"):
                with self.assertRaises(Forgotten):
                    database.clauses(name, 1, at=at)
        self.assertEqual([database.clauses("none", 1, at=at) for at in range(5)], [[]] * 5)

    def test_generations_behind_a_sweep(self):
        database = Database()
        for number in range(3):
            database.add(f("p", i(number)))     # generations 1, 2, 3
        database.add(a("q"))                    # 4
        database.erase(1)                       # 5
        before = [database.clauses("p", 1, at=at) for at in range(6)]
        self.assertEqual((database.sweep(), database.sweep()), (1, 0))
        for at in range(6):
            if 2 <= at < 5:
                with self.assertRaises(Forgotten):
                    database.clauses("p", 1, at=at)
            else:
                self.assertEqual(database.clauses("p", 1, at=at), before[at])
        # Other predicates can still be asked.
        self.assertEqual([len(database.clauses("q", 0, at=at)) for at in range(6)], [0, 0, 0, 0, 1, 1])
        self.assertEqual([database.clauses("p", 0, at=at) for at in range(6)], [[]] * 6)
        database.erase(0)                       # 6
        database.erase(2)                       # 7
        database.sweep()
        for at in range(8):
            if 1 <= at < 7:
                with self.assertRaises(Forgotten):
                    database.clauses("p", 1, at=at)
            else:
                self.assertEqual(database.clauses("p", 1, at=at), [])

    def test_predicates(self):
        database = Database()
        for clause in (a("q"), f("p", i(1), i(2)), f("p", i(1)), a("p"), f(":-", f("p", v(0)), a("q"))):
            database.add(clause)
        self.assertEqual(database.predicates(), [("p", 0), ("p", 1), ("p", 2), ("q", 0)])
        database.erase(2)
        self.assertEqual(database.predicates(), [("p", 0), ("p", 1), ("p", 2), ("q", 0)])
        database.erase(4)
        database.erase(0)
        self.assertEqual(database.predicates(), [("p", 0), ("p", 2)])

    def test_bad_clauses_change_nothing(self):
        database = Database()
        for clause in BAD_CLAUSES:
            for first in (False, True):
                with self.assertRaises(BadClause):
                    database.add(clause, first=first)
        self.assertEqual((database.generation, database.stored(), database.predicates()), (0, 0, []))
        self.assertEqual(database.add(a("p")), 0)

    def test_more_than_200_clauses(self):
        database = Database()
        for number in range(300):
            self.assertEqual(database.add(f("p", i(number))), number)
        self.assertEqual(database.stored(), 300)
        self.assertEqual(database.add(sized(200)), 300)

    def test_results_are_apart(self):
        database = Database()
        database.add(a("p"))
        database.clauses("p", 0).append(7)
        database.predicates().append(7)
        self.assertEqual((database.clauses("p", 0), database.predicates()), ([(0, a("p"))], [("p", 0)]))


class Calls(unittest.TestCase):

    def database(self, count):
        database = Database()
        for number in range(count):
            database.add(f("p", i(number)))
        return database

    def rest(self, database, call):
        """The numbers of all clauses that a call still returns; it is closed then."""
        found = []
        while (given := database.next_clause(call)) is not None:
            self.assertIs(type(given), tuple)
            found.append(given[0])
        with self.assertRaises(Closed):
            database.next_clause(call)
        return found

    def test_numbers_of_calls(self):
        database = self.database(1)
        self.assertEqual([database.open_call("p", 1), database.open_call("q", 2),
            database.open_call("p", 1, erasing=True)],
                         [0, 1, 2])
        database.close_call(1)
        self.assertEqual(database.open_call("p", 1), 3)
        self.assertEqual(database.next_clause(0), (0, f("p", i(0))))

    def test_what_a_call_sees(self):
        database = self.database(4)
        call = database.open_call("p", 1)
        database.add(f("p", i(9)))
        database.add(f("p", i(9)), first=True)
        database.erase(2)
        self.assertEqual(database.next_clause(call)[0], 0)
        database.erase(0)
        database.erase(3)
        database.sweep()
        self.assertEqual(self.rest(database, call), [1, 2, 3])
        self.assertEqual(self.rest(database, database.open_call("p", 1)), [5, 1, 4])
        self.assertEqual(self.rest(database, database.open_call("none", 1)), [])

    def test_calls_for_erasure(self):
        database = self.database(5)
        database.erase(1)
        call = database.open_call("p", 1, erasing=True)
        database.erase(2)
        self.assertEqual(database.next_clause(call)[0], 0)
        database.add(f("p", i(9)))
        database.erase(4)
        database.sweep()
        self.assertEqual(self.rest(database, call), [3])

    def test_closed(self):
        database = self.database(1)
        first, second = database.open_call("p", 1), database.open_call("p", 1)
        self.assertIsNone(database.close_call(first))
        database.next_clause(second)
        # It is open until it is asked again.
        twin = database.twin()
        self.assertIsNone(twin.close_call(second))
        self.assertIsNone(database.next_clause(second))
        for call in (first, second, 2, -1, -2, 10 ** 20):
            with self.assertRaises(Closed):
                database.next_clause(call)
            with self.assertRaises(Closed):
                database.close_call(call)
        self.assertEqual((database.generation, database.stored()), (1, 1))
        self.assertEqual(database.open_call("p", 1), 2)

    def test_what_a_sweep_removes(self):
        database = self.database(6)
        call = database.open_call("p", 1)
        erasing = database.open_call("p", 1, erasing=True)
        for number in (0, 2, 5):
            database.erase(number)
        self.assertEqual((database.sweep(), database.stored()), (0, 6))
        database.next_clause(call)
        # What it has returned it does not need any more.
        self.assertEqual((database.sweep(), database.stored()), (1, 5))
        database.next_clause(call)
        database.next_clause(call)
        self.assertEqual((database.sweep(), database.stored()), (1, 4))
        self.assertEqual(self.rest(database, erasing), [1, 3, 4])
        database.close_call(call)
        self.assertEqual((database.sweep(), database.stored()), (1, 3))
        self.assertEqual(database.sweep(), 0)

    def test_calls_of_others_do_not_keep_a_clause(self):
        database = self.database(2)
        database.open_call("q", 1)
        database.open_call("p", 1, erasing=True)
        database.erase(0)
        late = database.open_call("p", 1)
        self.assertEqual((database.sweep(), database.stored()), (1, 1))
        self.assertEqual(self.rest(database, late), [1])

    def test_several_calls_of_one_predicate(self):
        database = self.database(3)
        calls = [database.open_call("p", 1) for _ in range(3)]
        self.assertEqual([database.next_clause(call)[0] for call in calls + calls[:2] + calls[:1]], [0, 0, 0, 1, 1, 2])
        self.assertEqual([self.rest(database, call) for call in calls], [[], [2], [1, 2]])


class Twins(unittest.TestCase):

    def test_both_directions(self):
        for swapped in (False, True):
            database = Database()
            for number in range(4):
                database.add(f("p", i(number)))
            call = database.open_call("p", 1)
            database.next_clause(call)
            database.erase(1)
            twin = database.twin()
            one, other = (twin, database) if swapped else (database, twin)
            before = state_of(other)
            self.assertEqual(state_of(one), before)
            one.next_clause(call)
            one.erase(2)
            one.add(f("p", i(9)), first=True)
            one.close_call(call)
            one.sweep()
            one.open_call("p", 1)
            self.assertEqual(state_of(other), before)
            self.assertEqual([other.next_clause(call)[0] for _ in range(3)], [1, 2, 3])
            self.assertEqual(other.add(f("p", i(8))), 4)
            self.assertEqual(other.open_call("p", 1), 1)

    def test_drawn(self):
        source = seeded(89)
        for _ in range(60):
            database = Database()
            for update in random_updates(source, 30):
                performed(database, update)
            twin, before = database.twin(), state_of(database)
            self.assertIsInstance(twin, Database)
            updates = random_updates(source, 30)
            found = [performed(twin, update) for update in updates]
            self.assertEqual(state_of(database), before)
            after = state_of(twin)
            self.assertEqual([performed(database, update) for update in updates], found)
            self.assertEqual((state_of(database), state_of(twin)), (after, after))


class AgainstThePlainList(unittest.TestCase):

    def compare(self, database, model):
        self.assertEqual(database.generation, model.generation)
        self.assertEqual(database.stored(), model.stored())
        self.assertEqual(database.predicates(), model.predicates())
        for name, arity in (("p", 1), ("q", 2), ("p", 0), ("r", 1)):
            for at in (None, *range(-1, model.generation + 2)):
                try:
                    found = database.clauses(name, arity, at=at)
                except Forgotten:
                    found = "Forgotten"
                self.assertEqual(found, model.clauses((name, arity), at))

    def test_drawn_sequences(self):
        source = seeded(86)
        for _ in range(120):
            database, model = Database(), Model()
            for number, update in enumerate(random_updates(source, source.randrange(20, 70))):
                self.assertEqual(performed(database, update), model.update(update))
                if number % 9 == 0:
                    self.compare(database, model)
            self.compare(database, model)

    def test_sweeps_are_not_seen(self):
        """Two databases, one of which sweeps: they differ in `stored` and Forgotten alone."""
        source = seeded(90)
        for _ in range(60):
            one, other = Database(), Database()
            for update in random_updates(source, 60):
                if source.random() < 0.5:
                    one.sweep()
                if update != ("sweep",):
                    self.assertEqual(performed(one, update), performed(other, update))
            self.assertEqual((one.generation, one.predicates()), (other.generation, other.predicates()))
            self.assertLessEqual(one.stored(), other.stored())
            for swept, kept in zip(state_of(one)[3:], state_of(other)[3:]):
                self.assertIn(swept, (kept, "Forgotten"))
                self.assertNotEqual(kept, "Forgotten")


class Playing(unittest.TestCase):

    UPDATES = [
        ("add", a("p"), False), ("add", f(":-", a("p"), v(3)), True), ("open", "p", 0, False), ("add", v(0), False),
        ("next", 0), ("erase", 0), ("erase", 0), ("next", 1), ("open", "p", 0, True), ("sweep",), ("next", 0),
        ("next", 0),
        ("next", 0), ("close", 0), ("close", 1), ("close", -1), ("sweep",), ("add", i(3), True), ("add", a("q"), False)]
    RESULTS = [
        0, 1, 0, "BadClause", (1, f(":-", a("p"), v(0))), True, False, "Closed", 1, 0, (0, a("p")), None,
        "Closed", "Closed", None, "Closed", 1, "BadClause", 2]

    def test_each_kind(self):
        found = play(Database(), self.UPDATES)
        self.assertEqual(found, self.RESULTS)
        self.assertIs(type(found), list)
        self.assertIs(found[5], True)

    def test_no_updates(self):
        self.assertEqual(play(Database(), []), [])

    def test_the_database_has_changed(self):
        database, updates = Database(), list(self.UPDATES)
        play(database, updates)
        # The updates themselves stay as they are.
        self.assertEqual(updates, self.UPDATES)
        self.assertEqual((database.generation, database.stored()), (4, 2))
        self.assertEqual(database.clauses("p", 0), [(1, f(":-", a("p"), v(0)))])
        self.assertEqual(database.predicates(), [("p", 0), ("q", 0)])
        with self.assertRaises(Closed):
            database.next_clause(1)
        self.assertEqual(database.open_call("p", 0), 2)

    def test_an_update_with_an_error_changes_nothing(self):
        errors = [("add", clause, first) for clause in BAD_CLAUSES for first in (False, True)]
        errors += [("next", 1), ("next", -1), ("next", 10 ** 20), ("close", 1), ("close", -1), ("close", 2)]
        for update in errors:
            database = Database()
            play(database, [("add", a("p"), False), ("open", "p", 0, False), ("open", "p", 0, True), ("close", 1)])
            before = state_of(database)
            expected = "BadClause" if update[0] == "add" else "Closed"
            self.assertEqual(play(database, [update]), [expected])
            self.assertEqual(state_of(database), before)
            # The updates behind it are performed.
            self.assertEqual(play(database, [update, ("add", a("q"), False), update, ("next", 0)]),
                             [expected, 1, expected, (0, a("p"))])
            self.assertEqual(database.clauses("q", 0), [(1, a("q"))])

    def test_a_database_with_clauses_and_calls(self):
        database = Database()
        database.add(a("p"))
        database.add(f("p", i(1)))
        call = database.open_call("p", 0)
        updates = [("next", call), ("add", a("p"), False), ("erase", 1), ("open", "p", 1, False), ("next", 1)]
        self.assertEqual(play(database, updates), [(0, a("p")), 2, True, 1, None])
        self.assertEqual(database.clauses("p", 0), [(0, a("p")), (2, a("p"))])
        self.assertEqual(database.clauses("p", 1), [])
        self.assertEqual(play(database, [("next", call), ("next", call), ("next", 1)]), [None, "Closed", "Closed"])

    def test_twins(self):
        """A twin that was made before is another database."""
        for played in (0, 1):
            database = Database()
            play(database, [("add", a("p"), False), ("open", "p", 0, False)])
            both = (database, database.twin())
            before = state_of(both[1 - played])
            self.assertEqual(play(both[played], [("next", 0), ("erase", 0), ("close", 0), ("sweep",)]),
                             [(0, a("p")), True, None, 1])
            self.assertEqual(state_of(both[1 - played]), before)
            self.assertEqual(both[1 - played].next_clause(0), (0, a("p")))

    def test_results_are_apart(self):
        """A caller may change the list of the results."""
        database = Database()
        results = play(database, [("add", a("p"), False), ("open", "p", 0, False)])
        before = state_of(database)
        results.clear()
        self.assertEqual(state_of(database), before)
        self.assertEqual(play(database, [("next", 0)]), [(0, a("p"))])

    def test_drawn(self):
        source = seeded(91)
        for _ in range(150):
            updates = random_updates(source, source.randrange(1, 50))
            model, one, other = Model(), Database(), Database()
            expected = [model.update(update) for update in updates]
            self.assertEqual([performed(one, update) for update in updates], expected)
            # The updates may also come in several lists, one behind the other.
            place = source.randrange(len(updates) + 1)
            self.assertEqual(play(other, updates[:place]) + play(other, updates[place:]), expected)
            self.assertEqual(state_of(other), state_of(one))


if __name__ == "__main__":
    unittest.main()
