"""Plans: what a closing, an opening or a run does to the ones that are open where it comes."""

from tagmend.books import BARS, SHUTS, belongs, frame_of, host_of, is_wall, row_of
from tagmend.faults import share_a_name
from tagmend.trees import near_of, straight_above

MOST_OPEN = 20


def closing(book, names, name):
    for number in range(len(names) - 1, -1, -1):
        if names[number] == name:
            return number
        if is_wall(book, names[number]) and not belongs(book, names[number], name):
            return None
    return None


def opening(book, names, name):
    plan = wanted(book, names, name)
    kept = tuple(names[:plan[0]])
    put = plan[1]
    if is_barred(book, kept, put):
        return ("drop", "barred")
    if len(kept) + len(put) > MOST_OPEN:
        return ("drop", "deep")
    return ("open", len(kept), put)


def hosts_for(book, names):
    hosts = hosts_within(book, straight_above(names))
    return None if len(names) + len(hosts) > MOST_OPEN else hosts


def wanted(book, names, name):
    # How many are kept, and what is put: not yet weighed against bars and depth.
    frame = frame_of(book, name)
    if frame is None:
        return wanted_by_guest(book, names, name)
    # The walls that a host passes on the way to its frame are those that the frame's own closing passes.
    number = closing(book, names, frame)
    if number is not None:
        return (number + 1, (name,))
    plan = wanted(book, names, frame)
    return (plan[0], plan[1] + (name,))


def wanted_by_guest(book, names, name):
    # A tag that is no host: it may stand in a frame only with the frame's hosts around it.
    hosts = hosts_within(book, straight_above(names))
    if len(hosts) > 0:
        return (len(names), hosts + (name,))
    return (kept_by_shuts(book, names, name), (name,))


def kept_by_shuts(book, names, name):
    shuts = row_of(book, name)[SHUTS]
    first_near = len(names) - len(near_of(book, names))
    for number in range(first_near, len(names)):
        if names[number] in shuts:
            return number
    return len(names)


def hosts_within(book, name):
    # None but for a frame: its host, and as long as that is a frame itself, the host of that.
    hosts = []
    host = host_of(book, name)
    while host is not None:
        hosts.append(host)
        host = host_of(book, host)
    return tuple(hosts)


def is_barred(book, kept, put):
    for number, name in enumerate(put):
        near = near_of(book, kept + put[:number])
        if share_a_name(near, row_of(book, name)[BARS]):
            return True
    return False
