"""The desk: a table asked by lines."""

from leafhouse.errors import BadKey, BadLine, BadValue, InBundle, NoBundle, NoKey
from leafhouse.looker import faults
from leafhouse.table import Table


def put_done(table, rest):
    key, blank, value = rest.partition(" ")
    if blank == "":
        raise BadLine("no blank behind the key")
    table.put(key, value)
    return ["done"]


def only_key(rest):
    if " " in rest:
        raise BadLine("a blank behind the key")
    return rest


def value_told(table, rest):
    return [table.get(only_key(rest))]


def take_done(table, rest):
    table.take(only_key(rest))
    return ["done"]


def begin_done(table):
    table.begin()
    return ["done"]


def keep_done(table):
    table.keep()
    return ["done"]


def undo_done(table):
    table.undo()
    return ["done"]


def rest_done(table):
    table.rest()
    return ["done"]


def many_told(table):
    return [str(table.many())]


def keys_told(table):
    keys = table.all_keys()
    return keys if len(keys) > 0 else ["none"]


def faults_told(table):
    table.rest()
    told = [f"{number} {word}" for number, word in faults(table.store.disk.pages())]
    return told if len(told) > 0 else ["good"]


# Words with more behind them, and words alone.
LEADING = {"put": put_done, "get": value_told, "take": take_done}
ALONE = {
    "begin": begin_done,
    "keep": keep_done,
    "undo": undo_done,
    "rest": rest_done,
    "many": many_told,
    "keys": keys_told,
    "look": faults_told,
}


def done_or_refused(table, line):
    if not isinstance(line, str):
        raise BadLine("no text")
    word, blank, rest = line.partition(" ")
    if blank == " " and word in LEADING:
        return LEADING[word](table, rest)
    if blank == "" and word in ALONE:
        return ALONE[word](table)
    raise BadLine("no such line")


def answered(table, line):
    try:
        return done_or_refused(table, line)
    except NoKey:
        return ["no key"]
    except InBundle:
        return ["in bundle"]
    except NoBundle:
        return ["no bundle"]
    except BadKey:
        return ["bad key"]
    except BadValue:
        return ["bad value"]
    except BadLine:
        return ["bad line"]


def played(disk, lines):
    table = Table(disk)
    return [answered(table, line) for line in lines]
