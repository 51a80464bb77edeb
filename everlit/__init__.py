"""Everlit: moving signals in a network of light without darkening any."""
