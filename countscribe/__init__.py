"""countscribe: texts with open counts, and what is true of them for all counts."""
