package state

import (
	"testing"

	"flotsam/api"
	"flotsam/wire"
)

// TestIdentifyFull begins near the end of the ids: nobody waits for 2^30 of them.
func TestIdentifyFull(t *testing.T) {
	m, e := New(100, 30)
	if e != api.OK {
		t.Fatalf("P20.1: New: %d", e)
	}
	m.next = 1<<30 - 2
	for i, want := range []wire.Reply{{At: 1<<30 - 2}, {At: 1<<30 - 1}, {Error: api.ErrFull}, {Error: api.ErrFull}} {
		r := m.Do(wire.Request{Kind: wire.Identify}, 0)
		if r.Error != want.Error || r.At != want.At {
			t.Errorf("P20.2: Identify, case %d: %+v, want %+v", i, r, want)
		}
	}
	// A producer may have the last one.
	m.Do(wire.Request{Kind: wire.Create, Name: "t", Count: 1}, 0)
	b := api.Batch{Span: 1, Producer: 1<<30 - 1}
	if r := m.Do(wire.Request{Kind: wire.Produce, Name: "t", Batch: b}, 0); r.Error != api.OK {
		t.Errorf("P20.3: Produce of the last producer: %+v", r)
	}
}
