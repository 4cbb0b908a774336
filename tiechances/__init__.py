"""Tiechances: ties that hold by chances."""
