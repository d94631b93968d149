"""The least form of rows and goals, and rows of two walks side by side ([4]).

The operators of walks run all of this, so each function changes only what it made itself.
"""

from handcarried.errors import TooMany

MOST_STANDINGS = 150


def least_form(rows, goals):
    """The least form as a pair of rows and goals; TooMany("standing") if it has too many."""
    found = found_standings(rows)
    numbered = {at: number for number, at in enumerate(found)}
    columns = [[numbered[rows[at][value]] for at in found] for value in range(len(rows[0]))]
    ends = {goal: True for goal in goals}
    flags = [at in ends for at in found]
    classes = least_classes(flags, columns)
    # Classes are numbered as their first standings were found, which is the order that the least form has.
    firsts = first_places(classes)
    least_rows = tuple([tuple([classes[column[at]] for column in columns]) for at in firsts])
    return least_rows, tuple([number for number, at in enumerate(firsts) if flags[at]])


def found_standings(rows):
    """The standings that papers lead to, in the order in which they are found from 0."""
    found = [0]
    seen = {0: True}
    done = 0
    while done < len(found):
        for to in rows[found[done]]:
            if to not in seen:
                seen[to] = True
                found.append(to)
        done += 1
    return found


def least_classes(flags, columns):
    """The class of each standing: equal exactly for standings from which the same papers are right."""
    classes = parted([0 for _ in flags], flags)
    many = 0
    while max(classes) + 1 > many:
        many = max(classes) + 1
        # Parting goes only as far as it must, so what is parted by now stays parted.
        if many > MOST_STANDINGS:
            raise TooMany("standing")
        for column in columns:
            classes = parted(classes, [classes[to] for to in column])
    return classes


def parted(classes, marks):
    """The classes parted by a mark for each standing, numbered as they come."""
    numbered = {}
    out = []
    for pair in zip(classes, marks):
        if pair not in numbered:
            numbered[pair] = len(numbered)
        out.append(numbered[pair])
    return out


def first_places(classes):
    """The first place of each class, for classes that are numbered as they come."""
    firsts = []
    for at, number in enumerate(classes):
        if number == len(firsts):
            firsts.append(at)
    return firsts


def joined_rows(first, second):
    """The rows of two walks side by side: the pairs of standings that are found, and a row for each."""
    found = [(0, 0)]
    numbered = {(0, 0): 0}
    rows = []
    while len(rows) < len(found):
        one, other = found[len(rows)]
        row = []
        for pair in zip(first[one], second[other]):
            if pair not in numbered:
                numbered[pair] = len(found)
                found.append(pair)
            row.append(numbered[pair])
        rows.append(row)
    return found, rows
