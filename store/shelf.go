package store

import "strings"

const longestName = 20

func isName(name string) bool { return 1 <= len(name) && len(name) <= longestName }

// shelf is files by their names, and how many bytes they have.
type shelf struct {
	files map[string]file
	used  int
}

// put gives a name its file, in place of the one that it has.
func (s *shelf) put(name string, f file) {
	if s.files == nil {
		s.files = map[string]file{}
	}
	s.used += len(f.now) - len(s.files[name].now)
	s.files[strings.Clone(name)] = f // a piece of a long text would hold on to all of it
}

func (s *shelf) drop(name string) {
	s.used -= len(s.files[name].now)
	delete(s.files, name)
}
