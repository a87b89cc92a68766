package copse

import "copse/api"

// Order tells the order (P7).
func (c *Copse) Order() []string { return nil }

// Move moves a variable (P8).
func (c *Copse) Move(name string, to int) api.Errno { return api.OK }

// Sift looks for a good order (P8).
func (c *Copse) Sift() {}

// Collect lets handles go (P7).
func (c *Copse) Collect(keep []int) api.Errno { return api.OK }

// Live counts the nodes of all live handles (P7).
func (c *Copse) Live() int { return 0 }
