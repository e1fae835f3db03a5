"""Rowclash: an UPDATE that collides with a unique key, in every order of the rows."""
