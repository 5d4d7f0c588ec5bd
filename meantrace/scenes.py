"""Frames as what changes from one to the next."""


def scenes_of(frames):
    """What changes from frame to frame."""
    scenes = []
    for tick, frame in enumerate(frames):
        for gauge, worth in enumerate(frame):
            before = frames[tick - 1][gauge] if tick > 0 else 0
            if worth != before:
                scenes.append((tick, gauge, worth))
    return tuple(scenes)


def frames_of(scenes, many, ticks):
    """The frames of so many gauges, for so many ticks, that scenes tell."""
    changes = [[] for _ in range(ticks)]
    for tick, gauge, worth in scenes:
        if tick < ticks:
            changes[tick].append((gauge, worth))
    frames = []
    frame = [0 for _ in range(many)]
    for rows in changes:
        for gauge, worth in rows:
            frame[gauge] = worth
        frames.append(tuple(frame))
    return tuple(frames)
