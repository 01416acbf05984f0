"""Which lines and boxes of a derivation are seen from a line, and where a box ends."""


def seen(paths, k, i):
    return i < k and begins_with(paths[k], paths[i])


def box_seen(paths, k, b):
    return b < k and b not in paths[k] and begins_with(paths[k], paths[b][:-1])


def begins_with(path, beginning):
    return path[:len(beginning)] == beginning


# The lines of a box stand together: once it is left no line comes back into it.
def end_of(paths, b):
    place = len(paths[b]) - 1
    end = b
    for k in range(b, len(paths)):
        if len(paths[k]) <= place or paths[k][place] != b:
            break
        if len(paths[k]) == place + 1:
            end = k
    return end
