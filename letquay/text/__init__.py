"""Trees and texts: what is a tree, and how trees are read and written."""
