package whole

import (
	"testing"

	"flotsam/api"
	"flotsam/broker"
	"flotsam/wire"
)

// TestCrashEnds: no call of this package can make a disk that is not taken up again; so here one is broken by hand. The world has the old broker then, and the old server.
func TestCrashEnds(t *testing.T) {
	w, e := New(1000, broker.Config{Session: 10, Rebalance: 10, Limit: 50})
	if e != api.OK {
		t.Fatalf("P24.1: New: %d", e)
	}
	code, _ := wire.Encode(wire.Request{Kind: wire.Create, Name: "t", Count: 1})
	f, _ := wire.Frame(code)
	w.Feed(0, f+f)
	for range 3 {
		w.Step(0)
	}
	w.Step(0)
	w.Feed(1, "\xff\xff\xff\xff")
	w.Step(1)
	w.Step(1)
	w.Pass(3)
	oldBroker, oldServer := w.broker, w.Server
	if e := w.disk.Append("meta", "more"); e != api.OK {
		t.Fatalf("disk.Append: %d", e)
	}
	if e := w.Crash([]int{4}); e != api.ErrForm {
		t.Errorf("P24.3: Crash of a disk that is broken: %d, want ErrForm", e)
	}
	if w.broker != oldBroker || w.Server != oldServer || w.End("t", 0) != 0 || w.Now() != 3 || !w.Closed(1) {
		t.Errorf("P24.3: Crash that tells an error: End %d, Now %d, closed %t", w.End("t", 0), w.Now(), w.Closed(1))
	}
	// The request that was read is done still.
	if _, ok := w.Step(0); !ok || !w.Waits(0) {
		t.Error("P24.3: Crash that tells an error: the session has lost its request")
	}
	w.disk.Cut("meta", 0)
	w.disk.Drop("meta")
	if e := w.Crash(nil); e != api.OK || w.End("t", 0) != -1 || w.Waits(0) || w.Closed(1) {
		t.Errorf("P24.3: Crash behind that: %d, End %d", e, w.End("t", 0))
	}
}
