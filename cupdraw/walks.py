"""Walks: what is reached from a start, step by step."""


def reached(start, leads):
    """The start and all that is reached from it, rising, each once; leads(thing) tells where one step leads."""
    found = {start: True}
    waiting = [start]
    while len(waiting) > 0:
        here = waiting.pop()
        for thing in leads(here):
            if thing not in found:
                found[thing] = True
                waiting.append(thing)
    return sorted(found)
