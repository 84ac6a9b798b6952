package spans

// stack is a row of which only the last one is worked on.
type stack[T any] struct{ row []T }

// size is how many there are.
func (s *stack[T]) size() int { return len(s.row) }

// push puts one behind all others.
func (s *stack[T]) push(x T) { s.row = append(s.row, x) }

// top is the last one, as it stands there; there must be one.
func (s *stack[T]) top() *T { return &s.row[len(s.row)-1] }

// cut leaves so many, the first ones.
func (s *stack[T]) cut(size int) { s.row = s.row[:size] }
