"""Handsmade: a works that makes all it is made of, its plans too, kept so that nothing is ever lost."""
