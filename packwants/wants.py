"""Stage 1: wants, contents that cover them, and lesser wants."""


def had(content, thing):
    """How many of a thing contents have."""
    # A purchase at an empty shop has the content [], however many things are wanted.
    return content[thing] if thing < len(content) else 0


def covers(content, want):
    """Whether contents have no less of each thing than is wanted."""
    return all(had(content, thing) >= number for thing, number in enumerate(want))


def rest(want, content):
    """What is wanted of each thing beyond what contents have."""
    return [max(0, number - had(content, thing)) for thing, number in enumerate(want)]


def lesser(want):
    """All wants with no number greater than here, in order, each a list of its own."""
    begun = [[]]
    for number in want:
        begun = [start + [less] for start in begun for less in range(number + 1)]
    return begun
