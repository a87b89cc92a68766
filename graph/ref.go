package graph

// Ref stands for a function: twice the number of its node, and one more if the function is the opposite of what the node tells.
type Ref int

// The constants have the number 0, which no node has.
const (
	True  Ref = 0
	False Ref = 1
)

// Not is the opposite.
func (f Ref) Not() Ref { return f ^ 1 }

// Number is that of the node.
func (f Ref) Number() int { return int(f >> 1) }

// Plain is what the node tells.
func (f Ref) Plain() Ref { return f &^ 1 }

// Turned tells whether f is the opposite of what the node tells.
func (f Ref) Turned() bool { return f != f.Plain() }

// TurnedLike is f, or its opposite if by is turned.
func (f Ref) TurnedLike(by Ref) Ref { return f ^ by&1 }

func (f Ref) constant() bool { return f.Number() == 0 }
