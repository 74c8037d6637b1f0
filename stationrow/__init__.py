"""Stationrow: tasks dealt to a row of stands."""
