"""The orbits of things that are exchanged with each other, so that each one has one next."""


def orbits_of(following):
    """Return the list of all orbits, each a list in which the next one follows, given what is next of each thing."""
    seen = {}
    orbits = []
    for start in following:
        if start not in seen:
            orbit = _orbit(following, start)
            for member in orbit:
                seen[member] = True
            orbits.append(orbit)
    return orbits


def _orbit(following, start):
    orbit = [start]
    while following[orbit[-1]] != start:
        orbit.append(following[orbit[-1]])
    return orbit
