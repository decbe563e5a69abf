"""Units that are compiled apart, and linked."""
