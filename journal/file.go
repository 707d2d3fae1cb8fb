package journal

import "gangsaw/api"

// File is a file of bytes.
type File struct {
	content []byte
	durable int // how many bytes of the content are durable
}

// NewFile returns an empty file.
func NewFile() *File { return &File{} }

// Append appends bytes.
func (f *File) Append(data string) {
	if f != nil {
		f.content = append(f.content, data...)
	}
}

// Truncate shortens the file.
func (f *File) Truncate(size int) api.Errno {
	if size < 0 || size > len(f.Bytes()) {
		return api.ErrRange
	}
	if f != nil {
		f.content = f.content[:size]
		f.durable = min(f.durable, size)
	}
	return api.OK
}

// Sync makes the content durable.
func (f *File) Sync() {
	if f != nil {
		f.durable = len(f.content)
	}
}

// Bytes returns the content.
func (f *File) Bytes() string {
	if f == nil {
		return ""
	}
	return string(f.content)
}

// Crash loses what is not durable, but for the first kept bytes of it, one of which may be changed.
func (f *File) Crash(kept, at int, flip byte) {
	if f == nil {
		return
	}
	loose := f.content[f.durable:]
	loose = loose[:min(max(kept, 0), len(loose))]
	if at >= 0 && at < len(loose) {
		loose[at] ^= flip
	}
	f.content = f.content[:f.durable+len(loose)]
	f.Sync()
}
