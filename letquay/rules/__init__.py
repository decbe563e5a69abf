"""The rules: runs of typed programs, as they are written."""
