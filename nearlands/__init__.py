"""Nearlands: the land of each spot, told exactly."""
