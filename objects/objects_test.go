package objects

import (
	"math"
	"testing"

	"tenants/api"
)

// smear fills all bytes that there are, as a client that leaves traces would.
func smear(s *Set) {
	for _, o := range s.objects {
		for k := range o.bytes {
			o.bytes[k] = 0xff
		}
	}
}

func creates(t *testing.T, s *Set, handle, width, height int) {
	t.Helper()
	if e := s.CanCreate(handle, width, height); e != api.OK {
		t.Fatalf("P10: CanCreate(%d, %d, %d) = %d, want OK", handle, width, height, e)
	}
	s.Create(handle, width, height)
	o := s.objects[handle]
	if o.width != width || len(o.bytes) != width*height {
		t.Errorf("P10: Create(%d, %d, %d) is %d wide, %d bytes", handle, width, height, o.width, len(o.bytes))
	}
	for k, b := range o.bytes {
		if b != 0 {
			t.Fatalf("P10: Create(%d, %d, %d): byte %d is %d, want 0", handle, width, height, k, b)
		}
	}
}

func TestNewObjectsAreZero(t *testing.T) {
	var s Set
	creates(t, &s, 0, 24, 24)
	creates(t, &s, 1, 24, 8)
	for round := range 30 {
		smear(&s)
		handle := round % api.Handles
		for h := range api.Handles {
			s.Drop(h)
		}
		creates(t, &s, handle, 24, 24)
		creates(t, &s, (handle+1)%api.Handles, 1+round%24, 1+round%8)
	}
}

func TestObjectsHaveBytesOfTheirOwn(t *testing.T) {
	var s Set
	for handle := range api.Handles {
		creates(t, &s, handle, 4, 4)
		smear(&s)
	}
	for handle := range api.Handles {
		s.Put(handle, 3, byte(handle))
	}
	for handle := range api.Handles {
		if b := s.Byte(handle, 3); b != byte(handle) {
			t.Errorf("the byte of object %d is %d", handle, b)
		}
	}
}

func TestBytesThatThereAreNot(t *testing.T) {
	var s Set
	creates(t, &s, 0, 5, 7)
	creates(t, &s, 2, 3, 1)
	smear(&s)
	if s.Size(0) != 35 || s.Size(1) != 0 || s.Size(2) != 3 {
		t.Errorf("sizes %d, %d, %d, want 35, 0, 3", s.Size(0), s.Size(1), s.Size(2))
	}
	for _, handle := range []int{1, -1, api.Handles, math.MinInt, math.MaxInt} {
		if s.Size(handle) != 0 || s.Width(handle) != 0 || s.Bytes(handle) != "" {
			t.Errorf("object %d has %d bytes, is %d wide, % x", handle, s.Size(handle), s.Width(handle), s.Bytes(handle))
		}
	}
	for _, c := range []struct{ handle, k int }{
		{0, -1}, {0, 35}, {0, math.MinInt}, {0, math.MaxInt}, {2, 3}, {2, 34},
		{1, 0}, {-1, 0}, {api.Handles, 0}, {math.MinInt, 0}, {math.MaxInt, 0},
	} {
		s.Put(c.handle, c.k, 7)
		if b := s.Byte(c.handle, c.k); b != 0 {
			t.Errorf("P11: byte %d of object %d is %d, want 0", c.k, c.handle, b)
		}
	}
	isSmeared(t, &s, 0)
	isSmeared(t, &s, 2)
}

// TestBytesStay: what was asked for does not change with what is put later.
func TestBytesStay(t *testing.T) {
	var s Set
	creates(t, &s, 5, 3, 2)
	s.Put(5, 4, 'a')
	before := s.Bytes(5)
	s.Put(5, 4, 'b')
	if width := s.Width(5); width != 3 {
		t.Errorf("an object of 3 by 2 is %d wide", width)
	}
	if after := s.Bytes(5); before != "\x00\x00\x00\x00a\x00" || after != "\x00\x00\x00\x00b\x00" {
		t.Errorf("the bytes are % x, and then % x", before, after)
	}
}

func isSmeared(t *testing.T, s *Set, handle int) {
	t.Helper()
	for k, b := range s.objects[handle].bytes {
		if b != 0xff {
			t.Errorf("byte %d of object %d became %d", k, handle, b)
		}
	}
}

// refuses asks for the error, and then for the object all the same.
func refuses(t *testing.T, s *Set, handle, width, height int, want api.Errno) {
	t.Helper()
	if e := s.CanCreate(handle, width, height); e != want {
		t.Errorf("P10: CanCreate(%d, %d, %d) = %d, want %d", handle, width, height, e, want)
	}
	s.Create(handle, width, height)
}

func TestErrorsChangeNothing(t *testing.T) {
	var s Set
	creates(t, &s, 0, 5, 7)
	creates(t, &s, 1, 24, 24)
	smear(&s)
	for _, n := range []int{math.MinInt, -1, api.Handles, 256, math.MaxInt} {
		if s.Has(n) {
			t.Errorf("Has(%d)", n)
		}
		s.Drop(n)
		refuses(t, &s, n, 1, 1, api.ErrHandle)
	}
	s.Drop(2)
	for _, n := range []int{math.MinInt, -1, 0, api.MaxSide + 1, 1 << 32, math.MaxInt} {
		refuses(t, &s, 2, n, 1, api.ErrSize)
		refuses(t, &s, 2, 1, n, api.ErrSize)
	}
	refuses(t, &s, 0, 5, 7, api.ErrTaken)
	refuses(t, &s, 2, 24, 24, api.ErrMemory)
	if s.Pages() != 10 || !s.Has(0) || !s.Has(1) || s.Has(2) {
		t.Errorf("P10: after errors %d pages, %t, %t, %t", s.Pages(), s.Has(0), s.Has(1), s.Has(2))
	}
	isSmeared(t, &s, 0)
	isSmeared(t, &s, 1)
}
