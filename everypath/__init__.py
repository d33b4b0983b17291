"""Everypath: a symbolic executor for a small language of functions, integers, loops and inputs."""
