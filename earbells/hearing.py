"""Hearing: the bells that a bell listens to, and those that they hear."""


def hears(choir, bell):
    found = {}
    still_to_ask = [bell]
    while len(still_to_ask) > 0:
        asked = still_to_ask.pop()
        for listening in choir[asked][3]:
            if listening[0] not in found:
                found[listening[0]] = True
                still_to_ask.append(listening[0])
    return sorted(found)
