"""Where a walk through doors of told weights ends, and how long it takes, in exact fractions."""
