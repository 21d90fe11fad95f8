"""What sounds in a book: spans, endings, meetings, rubs and waits."""

from noteworth.signs import sounds


def beginning(book, name):
    """Return the beat at which a voice begins."""
    terms = book.canon(name)
    if terms is None:
        return 0
    return terms[1]


def spans(book, name):
    """Return a triple (start, end, tone) for each sounding sign of a voice."""
    found = []
    start = beginning(book, name)
    for sign, worth in zip(book.line(name), book.kept(name)):
        if sounds(sign):
            found.append((start, start + worth, sign[1]))
        start += worth
    return found


def ending(book, name):
    """Return the beat at which a voice ends."""
    return beginning(book, name) + sum(book.kept(name))


def sounding(book, beat):
    """Return a pair (name, tone) for each voice that sounds at a beat."""
    found = []
    for name in book.names():
        for start, end, tone in spans(book, name):
            if start <= beat < end:
                found.append((name, tone))
    return found


def starts(book, name):
    """Return the beats at which a voice begins a span."""
    return [start for start, end, tone in spans(book, name)]


def meetings(book):
    """Return the beats at which each voice begins a span."""
    names = book.names()
    if names == []:
        return []
    common = starts(book, names[0])
    for name in names[1:]:
        begun = {start: True for start in starts(book, name)}
        common = [beat for beat in common if beat in begun]
    return common


def rubbing_stretches(ones, others):
    """Return the stretches (start, end) in which spans of one voice rub against spans of another."""
    found = []
    first = 0
    for start, end, tone in ones:
        # What has ended ahead of this span has ended ahead of all behind it too.
        while first < len(others) and others[first][1] <= start:
            first += 1
        at = first
        while at < len(others) and others[at][0] < end:
            if abs(others[at][2] - tone) == 1:
                found.append((max(start, others[at][0]), min(end, others[at][1])))
            at += 1
    return found


def rubs(book):
    """Return a tuple (one, other, start, end) for each two spans that rub."""
    found = []
    names = book.names()
    sung = {name: spans(book, name) for name in names}
    for place, one in enumerate(names):
        for other in names[place + 1:]:
            for start, end in rubbing_stretches(sung[one], sung[other]):
                found.append((one, other, start, end))
    return found


def waits(book):
    """Return a pair (name, beats) for each voice: how much later it would have to begin to end with the last one."""
    endings = [(name, ending(book, name)) for name in book.names()]
    last = max([end for name, end in endings], default=0)
    return [(name, last - end) for name, end in endings]
