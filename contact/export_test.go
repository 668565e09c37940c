package contact

// Skip makes n the number of the last hello that c created: the last one, 2^30, is
// too far off to be reached by creating hellos. All other tests stand in
// contact_test.go.
func (c *Contact) Skip(n int) {
	c.last = n
}
