"""Wayneedle: maps of walkers whose compasses are off."""
