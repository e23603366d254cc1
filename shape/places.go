package shape
