package classes

// set is some names.
type set map[string]struct{}

func (s set) has(name string) bool {
	_, is := s[name]
	return is
}

func (s set) add(name string) { s[name] = struct{}{} }

// areApart says whether no name is there twice.
func areApart(l []string) bool {
	s := set{}
	for _, name := range l {
		s.add(name)
	}
	return len(s) == len(l)
}
