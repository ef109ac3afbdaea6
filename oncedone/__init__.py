"""Oncedone: deeds put forward so that no way does one twice in vain where it can be helped."""
