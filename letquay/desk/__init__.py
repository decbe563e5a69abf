"""Sessions and desks."""
