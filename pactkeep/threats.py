"""Plans that answer a hand that strays alone with the threat for it."""

from pactkeep.once import paid
from pactkeep.things import all_rows


def with_threats(meeting, path, threats):
    many = len(path)
    first = [answering(meeting, row, (place + 1) % many, many) for place, row in enumerate(path)]
    behind = [answering(meeting, row, many + hand, many) for hand, row in enumerate(threats)]
    return tuple(first + behind)


def answering(meeting, row, onward, threatening):
    nexts = []
    for done in all_rows(meeting):
        strayed = [hand for hand, deed in enumerate(row) if done[hand] != deed]
        nexts.append(threatening + strayed[0] if len(strayed) == 1 else onward)
    return (row, tuple(nexts))


def threatened_pays(meeting, threats):
    return tuple([paid(meeting, row)[hand] for hand, row in enumerate(threats)])
