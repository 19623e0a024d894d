"""Signs: how those that tags are made of are told in texts, and which of them stand alone in a run."""

TOLD_FOR = ("&l;", "&a;")
ESCAPED = ("<", "&")


def escaped(text):
    # The sign & goes first: else that of each new &l; would be escaped, too.
    return text.replace("&", "&a;").replace("<", "&l;")


def told_by(run):
    # &l; goes first: else what &a;l; tells, the signs &l; themselves, would be taken for a <.
    return run.replace("&l;", "<").replace("&a;", "&")


def lone_ones(run):
    return [number for number, sign in enumerate(run) if sign in ESCAPED and run[number:number + 3] not in TOLD_FOR]


def sources_in(run):
    # For each sign that the run tells, from where to where the signs lie that tell it.
    sources = []
    start = 0
    while start < len(run):
        stop = start + 3 if run[start:start + 3] in TOLD_FOR else start + 1
        sources.append((start, stop))
        start = stop
    return sources
