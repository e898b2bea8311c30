"""The functions of the interface with their parameters, and the methods of Zoom with theirs."""

from cornerfade import areas, drops, fades, labels, maps, texts, thinnings

FUNCTIONS = {
    maps: {"is_map": ["value"], "is_legal": ["value"], "fault": ["value"]},
    areas: {
        "areas": ["world"], "area_of": ["world", "place"], "turn": ["world", "name"],
        "alike": ["one", "other"], "twice": ["world", "area"], "pieces": ["world"],
    },
    drops: {
        "triangle": ["world", "line", "number"], "size": ["world", "line", "number"],
        "can_drop": ["world", "line", "number"], "barred_by": ["world", "line", "number"],
        "dropped": ["world", "line", "number"],
        "frame": ["world", "line", "number", "top", "bottom"],
    },
    fades: {
        "fade": ["world"], "stage": ["world", "number"], "stages": ["world"], "scales": ["world"],
        "at_scale": ["world", "scale"], "moment": ["world", "number", "top", "bottom"],
        "stays": ["world"], "sizes": ["world"],
    },
    thinnings: {
        "is_clear": ["world", "line", "i", "j"],
        "is_near": ["world", "line", "i", "j", "nearness"],
        "shortcuts": ["world", "line", "nearness"],
        "is_thinning": ["world", "line", "nearness", "value"],
        "fewest": ["world", "line", "nearness"], "levels": ["world", "line", "nearness"],
        "levels_hold": ["world", "line", "nearness", "value"], "thinned": ["world", "chosen"],
        "thinned_all": ["world", "nearness"],
    },
    labels: {"labels": ["world"], "unset": ["world"], "label_stages": ["world"]},
    texts: {"printed": ["world"], "parse": ["text"]},
}
METHODS = {
    "down": [], "up": [], "to": ["number"], "here": [], "shown": [], "scale": [], "__len__": [],
    "marked": ["name", "place", "size"], "whole": [],
}
