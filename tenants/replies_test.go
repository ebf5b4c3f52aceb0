package tenants

import (
	"testing"

	"tenants/api"
)

func TestRepliesTakenOnce(t *testing.T) {
	s := opened(t, 2)
	replies(t, s, 0, "")
	sends(t, s, 0, create(0, 1, 1)+create(0, 1, 1)+drop(7)+"\x08"+create(1, 0, 1)+create(1, 24, 24)+create(2, 24, 24))
	replies(t, s, 0, "")
	spends(t, s, 0, api.MaxFuel, 2+1+1+1+1+577+1)
	replies(t, s, 1, "")
	replies(t, s, 0, "\x00\x03\x02\x01\x04\x00\x05")
	replies(t, s, 0, "")
}

func TestRepliesOldestFirst(t *testing.T) {
	s := opened(t, 1)
	sends(t, s, 0, "\x00"+drop(0)+create(8, 1, 1)+create(0, 1, 1))
	spends(t, s, 0, 1, 1)
	spends(t, s, 0, 1, 1)
	replies(t, s, 0, "\x01\x02")
	spends(t, s, 0, 2, 2)
	replies(t, s, 0, "\x02")
	// To take the replies leaves the commands that wait as they are.
	spends(t, s, 0, 9, 1)
	sends(t, s, 0, "\x00")
	spends(t, s, 0, 9, 1)
	replies(t, s, 0, "\x00\x01")
	replies(t, s, 0, "")
}

// TestRepliesStay: what was answered does not change with what comes later.
func TestRepliesStay(t *testing.T) {
	s := opened(t, 1)
	sends(t, s, 0, zeros(3))
	spends(t, s, 0, 9, 3)
	before, _ := s.Replies(0)
	sends(t, s, 0, drop(0)+drop(0)+drop(0))
	spends(t, s, 0, 9, 3)
	replies(t, s, 0, "\x02\x02\x02")
	if before != "\x01\x01\x01" {
		t.Errorf("P9: replies that were taken became % x", before)
	}
}
