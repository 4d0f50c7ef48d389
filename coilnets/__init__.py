"""Coilnets: electrical networks made from impedance functions."""
