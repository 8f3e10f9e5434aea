"""The functions of the document's interface that exist so far, with the names of their parameters."""

FUNCTIONS = {
    "idealtwin.rows": {
        "is_cells": ["size", "value"],
        "is_row": ["size", "cells", "value"],
        "is_busy": ["size", "cells", "row"],
        "resting": ["size", "cells", "row"],
        "stays": ["size", "cells", "row"],
        "first_come": ["size", "cells"],
        "last_come": ["size", "cells"],
        "busy_slots": ["size", "cells", "outlet"],
        "waiting_count": ["size", "cells", "outlet", "slot"],
        "busy_count": ["size", "cells"],
        "nth_busy": ["size", "cells", "index"],
        "busy_index": ["size", "cells", "row"],
    },
    "idealtwin.turns": {
        "turned_cells": ["size", "cells", "row", "last"],
        "turned_row": ["size", "cells", "row", "last"],
        "turned_indices": ["size", "cells", "row"],
        "turned_plan": ["size", "cells", "row", "crossings", "last"],
        "is_pressed": ["size", "cells", "row"],
        "unpressed": ["size", "cells", "row"],
    },
}
