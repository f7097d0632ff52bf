"""Housewardens: devices that hear a house, for any number of people."""
