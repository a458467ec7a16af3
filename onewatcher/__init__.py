"""Onewatcher: claims about long runs, settled by one watcher that keeps the rules."""
