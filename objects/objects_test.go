package objects

import (
	"math"
	"testing"

	"tenants/api"
)

// smear fills all bytes that there are, as a client that leaves traces would.
func smear(s *Set) {
	for _, o := range s.objects {
		for k := range o.bytes {
			o.bytes[k] = 0xff
		}
	}
}

func creates(t *testing.T, s *Set, handle, width, height int) {
	t.Helper()
	if e := s.Create(handle, width, height); e != api.OK {
		t.Fatalf("P10: Create(%d, %d, %d) = %d, want OK", handle, width, height, e)
	}
	o := s.objects[handle]
	if o.width != width || o.height != height || len(o.bytes) != width*height {
		t.Errorf("P10: Create(%d, %d, %d) makes %d by %d, %d bytes", handle, width, height, o.width, o.height, len(o.bytes))
	}
	for k, b := range o.bytes {
		if b != 0 {
			t.Fatalf("P10: Create(%d, %d, %d): byte %d is %d, want 0", handle, width, height, k, b)
		}
	}
}

func TestNewObjectsAreZero(t *testing.T) {
	var s Set
	creates(t, &s, 0, 24, 24)
	creates(t, &s, 1, 24, 8)
	for round := range 30 {
		smear(&s)
		handle := round % api.Handles
		for h := range api.Handles {
			s.Drop(h)
		}
		creates(t, &s, handle, 24, 24)
		creates(t, &s, (handle+1)%api.Handles, 1+round%24, 1+round%8)
	}
}

func TestObjectsHaveBytesOfTheirOwn(t *testing.T) {
	var s Set
	for handle := range api.Handles {
		creates(t, &s, handle, 4, 4)
		smear(&s)
	}
	for handle := range api.Handles {
		s.objects[handle].bytes[3] = byte(handle)
	}
	for handle := range api.Handles {
		if b := s.objects[handle].bytes[3]; b != byte(handle) {
			t.Errorf("the byte of object %d is %d", handle, b)
		}
	}
}

func TestErrorsChangeNothing(t *testing.T) {
	var s Set
	creates(t, &s, 0, 5, 7)
	creates(t, &s, 1, 24, 24)
	smear(&s)
	for _, n := range []int{math.MinInt, -1, api.Handles, 256, math.MaxInt} {
		if s.Has(n) {
			t.Errorf("Has(%d)", n)
		}
		if e := s.Drop(n); e != api.ErrHandle {
			t.Errorf("P10: Drop(%d) = %d, want ErrHandle", n, e)
		}
		if e := s.Create(n, 1, 1); e != api.ErrHandle {
			t.Errorf("P10: Create(%d, 1, 1) = %d, want ErrHandle", n, e)
		}
	}
	for _, n := range []int{math.MinInt, -1, 0, api.MaxSide + 1, 1 << 32, math.MaxInt} {
		if e, f := s.Create(2, n, 1), s.Create(2, 1, n); e != api.ErrSize || f != api.ErrSize {
			t.Errorf("P10: Create of the side %d = %d, %d, want ErrSize", n, e, f)
		}
	}
	if e := s.Create(0, 5, 7); e != api.ErrTaken {
		t.Errorf("P10: Create of a handle that is taken = %d", e)
	}
	if e := s.Create(2, 24, 24); e != api.ErrMemory {
		t.Errorf("P10: Create of more than the quota = %d", e)
	}
	if s.Pages() != 10 || !s.Has(0) || !s.Has(1) || s.Has(2) {
		t.Errorf("P10: after errors %d pages, %t, %t, %t", s.Pages(), s.Has(0), s.Has(1), s.Has(2))
	}
	for k, b := range s.objects[0].bytes {
		if b != 0xff {
			t.Errorf("P10: after errors byte %d is %d", k, b)
		}
	}
}
