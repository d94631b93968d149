"""A lead and a loop: what goes on for ever, told as shortly as it can be ([7])."""


def lead_and_loop(flags, start):
    """The lead and the loop of flags that come again, from start on, again and again."""
    lead = list(flags[:start])
    whole = list(flags[start:])
    many = len(whole)
    # A shorter loop of the whole has a length that divides that of the whole.
    size = min([k for k in range(1, many + 1) if many % k == 0 and whole[k:] == whole[:many - k]])
    loop = whole[:size]
    while lead and lead[-1] == loop[-1]:
        loop = [lead.pop(), *loop[:-1]]
    return tuple(lead), tuple(loop)
