"""Legion: races and broken checks of threads, for any number of threads at once."""
