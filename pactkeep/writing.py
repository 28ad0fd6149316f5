"""How a meeting is written as a text."""


def written(meeting):
    deeds = [str(many) for many in meeting[0]]
    pay = [written_pays(pays) for pays in meeting[1]]
    return " ".join(deeds + [":"] + pay)


def written_pays(pays):
    return ",".join([str(number) for number in pays])
