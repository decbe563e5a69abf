"""Types: books of stamps, terms, schemes and solving."""
