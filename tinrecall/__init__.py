"""Tinrecall: tins called back by marks, just those that a fault can have reached."""
