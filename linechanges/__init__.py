"""Forward derivatives over line code: see linechanges.code.answers."""
