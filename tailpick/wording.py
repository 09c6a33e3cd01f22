"""Rules as a text. The functions that read are passed the whole text, too, for BadText."""

from tailpick.errors import BadText

MARKS = " \n;:|>-"
NOTHING = "-"


def set_words(wanted):
    """Return the text of a set."""
    return " ".join(wanted) if wanted else NOTHING


def need_words(need):
    """Return the text of a need."""
    job, alternatives = need
    written = " | ".join([set_words(wanted) for wanted in alternatives])
    return f"{job}: {written}"


def limit_words(limit):
    """Return the text of a limit."""
    job, wanted = limit
    return f"{job} > {set_words(wanted)}"


def written_parts(jobs, needs, limits):
    """Return the list of the texts that make the text of rules."""
    return [" ".join(jobs), *[need_words(need) for need in needs], *[limit_words(limit) for limit in limits]]


def is_word(part):
    """Return True if the string is a word; it need not be a name."""
    return part != "" and not any([sign in MARKS for sign in part])


def read_word(part, text):
    """Return the part, which must be a word."""
    if not is_word(part):
        raise BadText(text)
    return part


def read_words(part, text):
    """Return the list of the words of a part."""
    return [read_word(word, text) for word in part.split(" ")]


def read_jobs(part, text):
    """Return the list of the words of the first part."""
    words = read_words(part, text)
    if words != sorted(words):
        raise BadText(text)
    return words


def read_set(part, text):
    """Return the words of a part as a tuple; whether that is a set is not asked here."""
    return () if part == NOTHING else tuple(read_words(part, text))


def read_need(part, text):
    """Return the need of a part. If its mark is missing, an empty word is found behind it."""
    job, _, rest = part.partition(": ")
    return (read_word(job, text), [read_set(wanted, text) for wanted in rest.split(" | ")])


def read_limit(part, text):
    """Return the limit of a part that has the mark of a limit."""
    job, _, rest = part.partition(" > ")
    return (read_word(job, text), read_set(rest, text))


def read_parts(text):
    """Return the jobs, the needs and the limits that are written in a text."""
    first, *rest = text.split("; ")
    jobs = read_jobs(first, text)
    needs = []
    limits = []
    for part in rest:
        if " > " in part:
            limits.append(read_limit(part, text))
        elif limits:
            raise BadText(text)
        else:
            needs.append(read_need(part, text))
    return jobs, needs, limits
