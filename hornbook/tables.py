"""Tables: the calls that a query needs in a definite program, with all of their answers."""

from heapq import heappop, heappush

from hornbook.definite import check_goal, check_size, definite_clauses, renamed
from hornbook.derivations import MOST_DEPTH, first_path
from hornbook.errors import TablesFull, TooLarge
from hornbook.order import term_key
from hornbook.terms import is_integer, is_symbol, is_term, next_number, renumber, renumber_together
from hornbook.unify import MOST_NODES, apply, matches, unify

MOST_CALLS = 40
MOST_ANSWERS = 200
# So many nodes may the terms have that a caller passes, and so also those of a derivation.
MOST_PASSED = 1000
# It stands in place of a term with more than MOST_NODES nodes, which may never be needed.
TOO_LARGE = ()


def instances(substitution, terms):
    """Return the instances of the terms, renumbered together, as a tuple."""
    found = []
    for term in terms:
        instance = apply(substitution, term)
        if len(instance) > MOST_NODES:
            instance = TOO_LARGE
        found.append(instance)
    return tuple(renumber_together(found))


def first_terms(call, clause):
    """Return the instances of a call and of the goals of a clause, or None without a unifier.

    Later, when some of the goals are answered, the instance of the call and those of the
    other goals are the terms of a state.
    """
    head, goals = renamed(clause, next_number([call]))
    unifier = unify(call, head)
    if unifier is None:
        return None
    return instances(unifier, [call, *goals])


def next_terms(terms, answer):
    """Return the terms behind the first goal, with one of its answers."""
    found = matches(terms[1], renumber(answer, next_number(terms)))
    return instances(found, [terms[0], *terms[2:]])


def checked(term):
    """Return a term that is needed."""
    if term == TOO_LARGE:
        raise TooLarge("a term of the tables has more than 200 nodes")
    return term


class Tabling:
    """The tables of a query.

    A fact is a pair of the number of a call and the terms of a state in which it is
    answered; if there are no goals, it says that the first term is an answer. The cost
    of a fact is the least number of derivations that it stands for. If `by_cost` is
    true, the facts are settled in the order of their costs. Otherwise the newest one
    is settled first, so that full tables are noticed soon.
    """

    def __init__(self, pairs, *, by_cost):
        self.pairs = pairs
        self.by_cost = by_cost
        self.numbers = {}
        # For each call: the answers with their facts, and the facts that wait for them.
        self.answers = []
        self.waiting = []
        self.many = 0
        # For each fact that is settled its cost and its origin: the index of a clause,
        # or the fact and the answer from which it was made.
        self.settled = {}
        self.queue = []
        self.pushed = 0

    def push(self, fact, cost, origin):
        """Put a fact into the queue."""
        if fact not in self.settled:
            self.pushed += 1
            rank = cost if self.by_cost else -self.pushed
            heappush(self.queue, (rank, self.pushed, fact, cost, origin))

    def number_of(self, call):
        """Return the number of a call, which is a new one if it is met for the first time."""
        if call not in self.numbers:
            if len(self.numbers) == MOST_CALLS:
                raise TablesFull("there are more than 40 calls")
            self.numbers[call] = len(self.numbers)
            self.answers.append({})
            self.waiting.append([])
            for index, clause in enumerate(self.pairs):
                terms = first_terms(call, clause)
                if terms is not None:
                    self.push((self.numbers[call], terms), 1, index)
        return self.numbers[call]

    def add_answer(self, fact):
        """Add an answer to its table, and use it wherever its call is waited for."""
        if self.many == MOST_ANSWERS:
            raise TablesFull("there are more than 200 answers")
        self.many += 1
        number, terms = fact
        self.answers[number][checked(terms[0])] = fact
        for user in self.waiting[number]:
            self.combine(user, fact)

    def add_goal(self, fact):
        """Wait for the answers of the first goal of a fact, and use those that are there."""
        number = self.number_of(renumber(checked(fact[1][1])))
        self.waiting[number].append(fact)
        for answer in list(self.answers[number].values()):
            self.combine(fact, answer)

    def combine(self, fact, answer):
        """Use an answer for the first goal of a fact."""
        number, terms = fact
        cost = self.cost(fact) + self.cost(answer)
        self.push((number, next_terms(terms, answer[1][0])), cost, (fact, answer))

    def run(self, query):
        """Find the tables of a query."""
        if len(query) > MOST_NODES:
            raise TooLarge("a query has more than 200 nodes")
        self.number_of(renumber(query))
        while len(self.queue) > 0:
            _, _, fact, cost, origin = heappop(self.queue)
            if fact in self.settled:
                continue
            self.settled[fact] = (cost, origin)
            if len(fact[1]) == 1:
                self.add_answer(fact)
            else:
                self.add_goal(fact)

    def answers_of(self, call):
        """Return the answers of a call in table order."""
        return sorted(list(self.answers[self.numbers[call]]), key=term_key)

    def listed(self):
        """Return the tables in table order of their calls."""
        return [(call, self.answers_of(call)) for call in sorted(list(self.numbers), key=term_key)]

    def cheapest(self, call, answer):
        """Return the fact of least cost of which an answer of a call is an instance."""
        found = self.answers[self.numbers[call]]
        general = [fact for other, fact in found.items() if matches(other, answer) is not None]
        return min(general, key=self.cost)

    def cost(self, fact):
        """Return the cost of a fact that is settled."""
        return self.settled[fact][0]

    def clauses_of(self, fact):
        """Return the indexes of the clauses from which a fact is made, as in a derivation."""
        found = []
        waiting = [fact]
        while len(waiting) > 0:
            _, origin = self.settled[waiting.pop()]
            if is_integer(origin):
                found.append(origin)
            else:
                waiting.extend([origin[1], origin[0]])
        return found


def table_order(left, right):
    """Return -1, 0 or 1 as the left renumbered term comes before, equals or comes after."""
    one, other = term_key(left), term_key(right)
    if one == other:
        return 0
    return -1 if one < other else 1


def tabling(program, query, *, by_cost):
    """Return the tables of a query, as they were found."""
    clauses = definite_clauses(program)
    check_goal(query)
    found = Tabling(clauses, by_cost=by_cost)
    found.run(query)
    return found


def tables(program, query):
    """Return the tables of a query."""
    return tabling(program, query, by_cost=False).listed()


def table_answers(program, query):
    """Return the answers of a query in its tables."""
    return tabling(program, query, by_cost=False).answers_of(renumber(query))


def is_renumbered(value):
    """Tell whether a value is a renumbered term."""
    return is_term(value) and renumber(value) == value


def is_ascending(terms):
    """Tell whether renumbered terms are different and in table order."""
    return all([table_order(one, other) == -1 for one, other in zip(terms, terms[1:])])


def is_table(value):
    """Tell whether a value has the form of a table."""
    if not isinstance(value, tuple) or len(value) != 2:
        return False
    call, answers = value
    if not is_renumbered(call) or not is_symbol(call[0]) or not isinstance(answers, list):
        return False
    if not all([is_renumbered(answer) and matches(call, answer) is not None for answer in answers]):
        return False
    return is_ascending(answers)


def has_everything(clauses, answers):
    """Tell whether the answers of each call hold whatever the clauses say of them.

    `answers` has a dict of the answers for each call.
    """
    waiting = []
    for call in answers:
        for clause in clauses:
            terms = first_terms(call, clause)
            if terms is not None:
                waiting.append((call, terms))
    seen = {}
    while len(waiting) > 0:
        state = waiting.pop()
        if state in seen:
            continue
        seen[state] = True
        call, terms = state
        if len(terms) == 1:
            if checked(terms[0]) not in answers[call]:
                return False
            continue
        goal = renumber(checked(terms[1]))
        if goal not in answers:
            return False
        waiting.extend([(call, next_terms(terms, answer)) for answer in answers[goal]])
    return True


def closed(program, listed):
    """Tell whether a list of tables is closed for a program."""
    clauses = definite_clauses(program)
    if not isinstance(listed, list) or not all([is_table(table) for table in listed]):
        return False
    if not is_ascending([call for call, _ in listed]):
        return False
    try:
        return has_everything(clauses, {call: {term: True for term in terms} for call, terms in listed})
    except TooLarge:
        return False


def reason(program, query, call, answer):
    """Return a derivation of an answer of a call with as few derivations as there can be."""
    if answer not in dict(tables(program, query)).get(call, []):
        return None
    found = tabling(program, query, by_cost=True)
    fact = found.cheapest(call, answer)
    if found.cost(fact) > MOST_DEPTH:
        raise TooLarge("the derivation would contain more than 60 derivations")
    clauses = definite_clauses(program)
    path = first_path(answer)
    for index in found.clauses_of(fact):
        step = path.resolved(clauses[index], MOST_PASSED)
        path = path.behind(index, *step)
        check_size(path.size(), MOST_PASSED)
    return path.derivation()
