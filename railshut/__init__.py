"""railshut: toy railways exactly: rows that shut, layouts, and trains on them."""
