"""Playing updates of a database."""

from hornbook.errors import BadClause, Closed


def result_of(database, update):
    """Perform an update, and return its result."""
    word = update[0]
    if word == "add":
        return database.add(update[1], first=update[2])
    if word == "erase":
        return database.erase(update[1])
    if word == "open":
        return database.open_call(update[1], update[2], erasing=update[3])
    if word == "next":
        return database.next_clause(update[1])
    if word == "close":
        return database.close_call(update[1])
    return database.sweep()


def play(database, updates):
    """Perform updates of a database one after the other, and return the list of their results."""
    results = []
    for update in updates:
        try:
            results.append(result_of(database, update))
        except Closed:
            results.append("Closed")
        except BadClause:
            results.append("BadClause")
    return results
