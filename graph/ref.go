package graph

// Ref stands for a function: twice the number of its node, and one more if the function is the opposite of what the node tells.
type Ref int

// The constants have the number 0, which no node has.
const (
	True  Ref = 0
	False Ref = 1
)

// Not is the opposite.
func (f Ref) Not() Ref { return f ^ 1 }

func (f Ref) number() int { return int(f >> 1) }

func (f Ref) constant() bool { return f.number() == 0 }

// plain is what the node tells.
func (f Ref) plain() Ref { return f &^ 1 }

// turnedLike is f, or its opposite if by is turned.
func (f Ref) turnedLike(by Ref) Ref { return f ^ by&1 }
