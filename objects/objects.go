// Package objects keeps the objects of one context and counts their pages.
package objects

import "tenants/api"

// object is a picture. One without bytes is none at all: every object that was
// created has at least one.
type object struct {
	width int
	bytes []byte
}

// Set is the objects of one context, by their handles.
type Set struct {
	objects [api.Handles]object
}

// Has tells whether there is an object of this handle.
func (s *Set) Has(handle int) bool {
	if handle < 0 || handle >= api.Handles {
		return false
	}
	return len(s.objects[handle].bytes) > 0
}

// Size is how many bytes the object of this handle has; 0, if there is none.
func (s *Set) Size(handle int) int {
	if !s.Has(handle) {
		return 0
	}
	return len(s.objects[handle].bytes)
}

// Width is how wide the object of this handle is; 0, if there is none.
func (s *Set) Width(handle int) int {
	if !s.Has(handle) {
		return 0
	}
	return s.objects[handle].width
}

// Bytes is the bytes that an object has now; none, if there is no such object.
func (s *Set) Bytes(handle int) string {
	if !s.Has(handle) {
		return ""
	}
	return string(s.objects[handle].bytes)
}

// Byte is byte number k of an object; 0, if there is no such byte.
func (s *Set) Byte(handle int, k int) byte {
	size := s.Size(handle)
	if k < 0 || k >= size {
		return 0
	}
	return s.objects[handle].bytes[k]
}

// Put makes a value byte number k of an object, if there is such a byte.
func (s *Set) Put(handle int, k int, value byte) {
	size := s.Size(handle)
	if k < 0 || k >= size {
		return
	}
	s.objects[handle].bytes[k] = value
}

// Pages is how many pages the objects take together.
func (s *Set) Pages() int {
	total := 0
	for _, o := range s.objects {
		total += pagesOf(len(o.bytes))
	}
	return total
}

// CanCreate answers the error that stands in the way of a Create.
func (s *Set) CanCreate(handle int, width int, height int) api.Errno {
	if handle < 0 || handle >= api.Handles {
		return api.ErrHandle
	}
	if s.Has(handle) {
		return api.ErrTaken
	}
	if !isSide(width) || !isSide(height) {
		return api.ErrSize
	}
	taken := s.Pages()
	if taken+pagesOf(width*height) > api.Quota {
		return api.ErrMemory
	}
	return api.OK
}

// Create makes an object, if CanCreate has no error. Its bytes are made anew,
// and not taken from what another object had, so that nothing of that can be
// seen.
func (s *Set) Create(handle int, width int, height int) {
	fault := s.CanCreate(handle, width, height)
	if fault != api.OK {
		return
	}
	s.objects[handle] = object{width: width, bytes: make([]byte, width*height)}
}

// Drop takes the object of this handle away, if there is one.
func (s *Set) Drop(handle int) {
	if !s.Has(handle) {
		return
	}
	s.objects[handle] = object{}
}

func isSide(length int) bool {
	return length >= 1 && length <= api.MaxSide
}

// pagesOf counts a page that is begun as a whole one.
func pagesOf(bytes int) int {
	return (bytes + api.PageSize - 1) / api.PageSize
}
