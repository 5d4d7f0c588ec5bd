"""Meantrace: a simulation engine from model texts to exact answers for all digits."""
