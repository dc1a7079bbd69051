"""Leftasleep: which ways of waiting and calling leave nobody asleep."""
