"""Values in cells that shall stand elsewhere, all at once."""
