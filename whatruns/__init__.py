"""Whatruns: what one meter tells about several devices that draw known watts."""
