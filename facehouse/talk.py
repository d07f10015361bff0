"""Which editions of a face talk with one another, and where they don't, what stands in the way (13)."""

from facehouse.kin import unread


def talks(asker, server):
    """Whether an asker's edition of a face talks with a server's."""
    return untalked(asker, server) is None


def untalked(asker, server):
    """What stands in the way at the call of the least number; None where they talk."""
    served = server.call_numbers()
    for number in asker.call_numbers():
        reason = untalked_call(asker, server, number) if number in served else ("call", number)
        if reason is not None:
            return reason
    return None


def untalked_call(asker, server, number):
    """What stands in the way at a call that both have: a value of the one that the other doesn't read, or None."""
    asking = asker.call_of(number)
    serving = server.call_of(number)
    value = unread(server, serving[2], asker, asking[2])
    if value is not None:
        return "ask", number, value
    value = unread(asker, asking[3], server, serving[3])
    if value is not None:
        return "answer", number, value
    return None
