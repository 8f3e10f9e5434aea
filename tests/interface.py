"""The functions and classes of the document's interface, with the names of their parameters."""

FUNCTIONS = {
    "idealtwin.rows": {
        "is_cells": ["size", "value"],
        "is_row": ["size", "cells", "value"],
        "is_busy": ["size", "cells", "row"],
        "resting": ["size", "cells", "row"],
        "stays": ["size", "cells", "row"],
        "first_come": ["size", "cells"],
        "last_come": ["size", "cells"],
        "busy_slots": ["size", "cells", "outlet"],
        "waiting_count": ["size", "cells", "outlet", "slot"],
        "busy_count": ["size", "cells"],
        "nth_busy": ["size", "cells", "index"],
        "busy_index": ["size", "cells", "row"],
    },
    "idealtwin.turns": {
        "turned_cells": ["size", "cells", "row", "last"],
        "turned_row": ["size", "cells", "row", "last"],
        "turned_indices": ["size", "cells", "row"],
        "turned_plan": ["size", "cells", "row", "crossings", "last"],
        "is_pressed": ["size", "cells", "row"],
        "unpressed": ["size", "cells", "row"],
    },
    "idealtwin.plans": {
        "is_plan": ["size", "cells", "row", "value"],
        "speeds_of": ["size", "cells", "crossings"],
        "keeps_speeds": ["size", "cells", "crossings", "speeds"],
        "keeps_rhythm": ["size", "cells", "crossings", "rhythm"],
        "pairings_at": ["size", "cells", "crossings", "slot"],
        "shows_pairings": ["size", "cells", "crossings", "slot", "value"],
    },
    "idealtwin.slowsides": {
        "clashes": ["size", "cells", "row"],
        "clash_number": ["size", "cells", "row"],
        "bunches": ["size", "cells"],
        "bunch_number": ["size", "cells"],
        "plan_by_leaving": ["size", "cells", "row", "number"],
        "plan_by_coming": ["size", "cells", "row", "number"],
        "side_plan": ["size", "cells", "row", "rhythm", "side"],
        "shows_side_plan": ["size", "cells", "row", "rhythm", "side", "value"],
        "jam": ["size", "cells", "row", "rhythm", "side"],
        "shows_jam": ["size", "cells", "row", "rhythm", "side", "value"],
    },
    "idealtwin.speeds": {
        "is_enough": ["size", "speeds"],
        "least_speeds": ["size"],
        "forcing": ["size", "speeds"],
    },
    "idealtwin.rhythms": {
        "unsure": ["size", "cells", "row", "rhythm"],
        "rhythm_word": ["size", "rhythm", "longest"],
        "breaking": ["size", "rhythm", "longest"],
    },
    "idealtwin.steady": {
        "is_steady": ["waiting", "value"],
        "disturber": ["waiting", "picks"],
        "entry_best": ["waiting"],
        "outlet_best": ["waiting"],
        "steady_count": ["waiting"],
        "nth_steady": ["waiting", "index"],
        "better": ["waiting", "picks", "other_picks"],
        "worse": ["waiting", "picks", "other_picks"],
    },
    "idealtwin.twins": {
        "run_plan": ["size", "cells", "row", "rhythm", "rule"],
        "late_cells": ["size", "cells", "row", "crossings"],
        "twin_plan": ["size", "cells", "row"],
    },
    "idealtwin.serving": {
        "serves": ["size", "cells", "crossings", "row"],
        "serves_some": ["size", "cells", "crossings"],
        "starved": ["size", "cells", "crossings"],
        "served_count": ["size", "cells", "crossings"],
        "nth_served": ["size", "cells", "crossings", "index"],
        "served_index": ["size", "cells", "crossings", "row"],
        "both_count": ["size", "cells", "crossings", "other_crossings"],
    },
    "idealtwin.frames": {
        "is_frame": ["size", "value"],
        "unrolled": ["size", "frame", "rounds"],
        "left_over": ["size", "frame", "outlet", "rounds"],
        "leaving_of": ["size", "frame", "number", "index"],
        "sender_at": ["size", "frame", "outlet", "slot"],
        "clash_pairs": ["size", "frame", "rounds"],
        "first_clash": ["size", "frame"],
        "clear_rounds": ["size", "frame"],
    },
    "idealtwin.small": {
        "has_plan": ["size", "cells", "row", "speeds"],
        "plan_count": ["size", "cells", "row", "speeds"],
        "nth_plan": ["size", "cells", "row", "speeds", "index"],
        "least_pairs": ["size", "cells", "row"],
    },
    "idealtwin.texts": {
        "format_cells": ["size", "cells"],
        "format_numbers": ["numbers"],
        "parse_cells": ["size", "text"],
        "parse_row": ["size", "cells", "text"],
    },
}

SWITCH = ["size", "rhythm"]
# For each class its bases and the parameters of its constructor, and what the document lists for itself: methods
# with their parameters, and properties.
CLASSES = {
    "idealtwin.switches": {
        "Switch": (["object"], SWITCH, {
            "tick": ["arrivals"], "undo": [], "leaving": ["number"], "crossing": ["number"], "__len__": [], "twin": [],
            "described": [], "__eq__": ["other"],
        }, ["size", "rhythm", "slot", "waiting", "held", "late"]),
        "OldestSwitch": (["Switch"], SWITCH, {}, []),
        "CountingSwitch": (["Switch"], SWITCH, {"described": []}, ["idle"]),
        "OldestCountingSwitch": (["OldestSwitch", "CountingSwitch"], SWITCH, {}, []),
    },
    "idealtwin.console": {
        "Console": (["object"], [], {"execute": ["command"]}, []),
    },
}
