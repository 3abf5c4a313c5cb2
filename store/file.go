package store

// What of a file is sure.
const (
	nothing = iota
	past    // what it had before
	present // what it has
)

// file is what a name has: its bytes, and, if the sure ones are past, those too.
type file struct {
	now, before own[byte]
	sure        int
}

// certain answers a file of which all is sure. What was sure before may be let go then.
func certain(b own[byte]) file { return file{now: b, sure: present} }

// written answers the file with other bytes, which are unsure.
func (f file) written(b []byte) file {
	if f.sure == present {
		f.before, f.sure = f.now, past
	}
	f.now = own[byte](b).all()
	return f
}

// What a crash keeps of bytes that are unsure.
const (
	keepAll  = 1
	keepHalf = 2
)

// left answers the bytes that a crash leaves of the file; false, if it leaves no file.
func (f file) left(keep int) (own[byte], bool) {
	switch {
	case f.sure == present || keep == keepAll:
		return f.now, true
	case keep == keepHalf:
		return f.now.first(len(f.now) / 2), true
	}
	return f.before, f.sure == past
}
