package disk

import "slices"

// file is bytes that are firm, and writes behind them that are not.
type file struct {
	firm   []byte
	writes [][]byte
}

func (f *file) size() int {
	n := len(f.firm)
	for _, w := range f.writes {
		n += len(w)
	}
	return n
}

func (f *file) bytes() []byte {
	all := make([]byte, f.size())
	end := copy(all, f.firm)
	for _, w := range f.writes {
		end += copy(all[end:], w)
	}
	return all
}

func (f *file) write(data []byte) { f.writes = append(f.writes, slices.Clone(data)) }

// sync appends to what is firm, so that many small syncs do not copy all of a
// long file each time.
func (f *file) sync() {
	for _, w := range f.takeWrites() {
		f.firm = append(f.firm, w...)
	}
}

// takeWrites takes the writes off: what the caller does not lay again is lost.
func (f *file) takeWrites() [][]byte {
	writes := f.writes
	f.writes = nil
	return writes
}

func (f *file) copied() *file {
	other := &file{firm: slices.Clone(f.firm)}
	for _, w := range f.writes {
		other.write(w)
	}
	return other
}
