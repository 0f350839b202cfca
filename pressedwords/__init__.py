"""pressedwords: sayings about texts, solved by pressing pairs and blocks of letters."""
