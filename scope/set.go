package scope

// set is names, each once.
type set map[string]struct{}

func setOf(l []string) set {
	s := make(set, len(l))
	for _, name := range l {
		s.add(name)
	}
	return s
}

// add says whether the name is new.
func (s set) add(name string) bool {
	_, found := s[name]
	s[name] = struct{}{}
	return !found
}

// apart says whether no name is there twice.
func apart(l []string) bool { return len(setOf(l)) == len(l) }
