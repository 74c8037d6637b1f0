"""Reports: what is told of a works' text and a beat, as a text."""

from stationrow.beats import least_beat
from stationrow.checks import check_works
from stationrow.dealings import loads_of
from stationrow.dealt import fewest_stands
from stationrow.errors import NoRoom, NoRow, NoStand, NoTask, Ring, TooLong, Torn, Twice
from stationrow.even import most_even
from stationrow.texts import read_works


def stand_row(number, kind, load, tasks):
    return " ".join(["stand", str(number), kind, str(load)] + list(tasks))


def stand_rows(works, dealing):
    """A row for each stand of a dealing, numbered from 1."""
    rows = []
    for stand, load in enumerate(loads_of(works, dealing)):
        rows.append(stand_row(stand + 1, works[3][stand], load, dealing[stand]))
    return rows


def works_report(works, beat):
    """The report on a works that stands the check, or a refusal."""
    many = fewest_stands(works, beat)[0]
    least = least_beat(works, many)
    even = most_even(works, least, many)
    rows = [f"stands {many} beat {least}"]
    rows.extend(stand_rows(works, even[1]))
    rows.append(" ".join(["uneven", str(even[0])]))
    return "\n".join(rows)


def text_report(text, beat):
    """The report on a text, or a refusal."""
    works = read_works(text)
    check_works(works)
    return works_report(works, beat)


def refusal_row(word, fields):
    return " ".join([word] + list(fields))


def report_on(text, beat):
    """The report on anything and a beat; what is refused is told in one row."""
    try:
        return text_report(text, beat)
    except NoRow as refusal:
        return refusal_row("NoRow", [str(refusal.row)])
    except Twice as refusal:
        return refusal_row("Twice", [str(refusal.row)])
    except NoTask as refusal:
        return refusal_row("NoTask", [str(refusal.row)])
    except Ring as refusal:
        return refusal_row("Ring", refusal.ring)
    except Torn as refusal:
        return refusal_row("Torn", [refusal.one, refusal.other])
    except NoStand as refusal:
        return refusal_row("NoStand", refusal.tasks)
    except TooLong as refusal:
        return refusal_row("TooLong", [str(refusal.length)] + list(refusal.tasks))
    except NoRoom:
        return "NoRoom"
