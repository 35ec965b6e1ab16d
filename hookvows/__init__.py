"""Hookvows: what a host surely does, whatever parts are hooked into it."""
