"""Spoolrounds: thread that goes round spools, told exactly behind any number of rounds."""
