"""The places in the fields of a form at which readings can stand, and the lots of them ([6]).

A place is a pair of the number of a field and what the field has read: how many signs of a run, or the
beginning of a word. Behind the last field is the one place (number of fields, 0).
"""


def lot_rows(signs, fields):
    """The rows and goals of the walk whose standings are the lots of places that papers lead to."""
    moves = place_moves(signs, fields)
    end = (len(fields), 0)
    found = [tuple(sorted(first_places_of(fields, 0)))]
    numbered = {found[0]: 0}
    rows = []
    while len(rows) < len(found):
        lot = found[len(rows)]
        row = []
        for value in range(len(signs)):
            behind = tuple(sorted({to for place in lot for to in moves[place][value]}))
            if behind not in numbered:
                numbered[behind] = len(found)
                found.append(behind)
            row.append(numbered[behind])
        rows.append(row)
    return rows, [number for number, lot in enumerate(found) if end in lot]


def place_moves(signs, fields):
    """For each place that can come up, and each sign, the places behind it."""
    found = list(first_places_of(fields, 0))
    moves = {}
    done = 0
    while done < len(found):
        place = found[done]
        done += 1
        if place not in moves:
            moves[place] = [places_behind(fields, place, sign) for sign in signs]
            for places in moves[place]:
                found.extend(places)
    return moves


def first_places_of(fields, number):
    """The places at which a reading can stand when the field with this number begins."""
    if number == len(fields):
        return [(number, 0)]
    field = fields[number]
    if field[0] == "words":
        return [(number, "")]
    if field[3] == 0:
        return [(number, 0), *first_places_of(fields, number + 1)]
    return [(number, 0)]


def places_behind(fields, place, sign):
    """The places at which a reading can stand behind a sign that is read at a place."""
    number, read = place
    if number == len(fields):
        return []
    if fields[number][0] == "words":
        return places_in_words(fields, number, read + sign)
    if sign not in fields[number][2]:
        return []
    return places_in_run(fields, number, read + 1)


def places_in_words(fields, number, read):
    """The places of a reading that has read this in a field of words."""
    words = fields[number][2]
    places = first_places_of(fields, number + 1) if read in words else []
    if any([word.startswith(read) and word != read for word in words]):
        places = [(number, read), *places]
    return places


def places_in_run(fields, number, many):
    """The places of a reading that has read so many signs of a run."""
    least, most = fields[number][3:]
    places = first_places_of(fields, number + 1) if many >= least else []
    if most is None:
        # Whatever is read beyond the least number of signs changes nothing any more.
        return [(number, min(many, least)), *places]
    if many < most:
        return [(number, many), *places]
    return places
