package insts

// set is some things, each once.
type set[T comparable] map[T]struct{}

func setOf[T comparable](l []T) set[T] {
	s := set[T]{}
	for _, x := range l {
		s.add(x)
	}
	return s
}

func (s set[T]) has(x T) bool {
	_, is := s[x]
	return is
}

func (s set[T]) add(x T) { s[x] = struct{}{} }
