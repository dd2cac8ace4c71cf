package sorts

import "strings"

// entry is a name, and how many levels there were when it came.
type entry struct {
	name  string
	level int
}

// stack is names, the latest one last.
type stack struct {
	entries []entry
	at      map[string]int // the place of each name among entries
}

func (s *stack) len() int { return len(s.entries) }

// place tells where a name stands.
func (s *stack) place(name string) (int, bool) {
	at, ok := s.at[name]
	return at, ok
}

// push lays a name on top. It is copied, since it may be a piece of a long
// text that would be kept with it.
func (s *stack) push(name string, level int) string {
	name = strings.Clone(name)
	if s.at == nil {
		s.at = make(map[string]int)
	}
	s.at[name] = len(s.entries)
	s.entries = append(s.entries, entry{name, level})
	return name
}

// cut takes off what came on a higher level.
func (s *stack) cut(level int) {
	n := len(s.entries)
	for n > 0 && s.entries[n-1].level > level {
		n--
		delete(s.at, s.entries[n].name)
	}
	clear(s.entries[n:])
	s.entries = s.entries[:n]
}
