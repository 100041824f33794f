package disk_test

import (
	"math"
	"slices"
	"strings"
	"testing"

	"flotsam/api"
	"flotsam/disk"
)

// with makes a disk with room for a hundred bytes, on which each step answers OK.
func with(t *testing.T, steps ...func(*disk.Disk) api.Errno) *disk.Disk {
	t.Helper()
	d, e := disk.New(100)
	if d == nil || e != api.OK {
		t.Fatalf("P3.1: New(100): %v, %d", d, e)
	}
	for i, step := range steps {
		if e := step(d); e != api.OK {
			t.Fatalf("step %d: %d", i, e)
		}
	}
	return d
}

func appends(name string, bytes string) func(*disk.Disk) api.Errno {
	return func(d *disk.Disk) api.Errno { return d.Append(name, bytes) }
}

func syncs(name string) func(*disk.Disk) api.Errno {
	return func(d *disk.Disk) api.Errno { return d.Sync(name) }
}

func cuts(name string, n int) func(*disk.Disk) api.Errno {
	return func(d *disk.Disk) api.Errno { return d.Cut(name, n) }
}

func renames(old string, name string) func(*disk.Disk) api.Errno {
	return func(d *disk.Disk) api.Errno { return d.Rename(old, name) }
}

func drops(name string) func(*disk.Disk) api.Errno {
	return func(d *disk.Disk) api.Errno { return d.Drop(name) }
}

func fuses(n int) func(*disk.Disk) api.Errno {
	return func(d *disk.Disk) api.Errno { return d.Fuse(n) }
}

// changes are those that go on a disk with files a and b; each is one change.
func changes() map[string]func(*disk.Disk) api.Errno {
	return map[string]func(*disk.Disk) api.Errno{
		"Append":                     appends("a", "xy"),
		"Append of nothing":          appends("a", ""),
		"Append to a new file":       appends("c", "xy"),
		"Sync":                       syncs("a"),
		"Cut":                        cuts("a", 1),
		"Cut to what is there":       cuts("a", 4),
		"Rename":                     renames("a", "c"),
		"Rename upon another file":   renames("a", "b"),
		"Rename to the name it has":  renames("a", "a"),
		"Drop":                       drops("a"),
		"Sync where nothing waits":   syncs("b"),
		"Cut of a file without more": cuts("b", 0),
	}
}

// told is all that a disk that is up tells of its files: their names and bytes, and how many there are together.
func told(t *testing.T, d *disk.Disk) string {
	t.Helper()
	all, used := "", 0
	for _, name := range d.Names() {
		s, e := d.Read(name)
		if e != api.OK {
			t.Errorf("P3.2: Read(%q), which Names tells: %d", name, e)
		}
		all += name + "=" + s + ";"
		used += len(s)
	}
	if d.Used() != used {
		t.Errorf("P3.1: Used: %d, of files that have %d", d.Used(), used)
	}
	return all
}

func expect(t *testing.T, promise string, d *disk.Disk, want string) {
	t.Helper()
	if got := told(t, d); got != want {
		t.Errorf("%s: the disk has %q, want %q", promise, got, want)
	}
}

func TestNew(t *testing.T) {
	for _, room := range []int{0, -1, math.MinInt, 1<<22 + 1, math.MaxInt} {
		if d, e := disk.New(room); d != nil || e != api.ErrArg {
			t.Errorf("P3.1: New(%d): %v, %d, want nil, ErrArg", room, d, e)
		}
	}
	for _, room := range []int{1, 2, 1000, 1 << 22} {
		d, e := disk.New(room)
		if d == nil || e != api.OK {
			t.Fatalf("P3.1: New(%d): %v, %d", room, d, e)
		}
		if d.Room() != room || d.Used() != 0 || !d.Up() || len(d.Names()) != 0 {
			t.Errorf("P3.1: New(%d): %d, %d, %t, %q", room, d.Room(), d.Used(), d.Up(), d.Names())
		}
		for range 100 {
			if e := d.Append("a", ""); e != api.OK || !d.Up() {
				t.Fatalf("P3.1: a new disk has a fuse: %d", e)
			}
		}
	}
}

func TestNamesRise(t *testing.T) {
	want := []string{"\x00", "A", "B", "a", "a.new", "aa", "b", "\xff"}
	d := with(t)
	for _, i := range []int{4, 0, 7, 2, 6, 1, 5, 3} {
		d.Append(want[i], "x")
	}
	if got := d.Names(); !slices.Equal(got, want) {
		t.Errorf("P3.1: Names: %q, want %q", got, want)
	}
	got := d.Names()
	got[0] = "changed"
	if again := d.Names(); !slices.Equal(again, want) {
		t.Errorf("R5: Names behind a change of what it told: %q, want %q", again, want)
	}
}

func TestADiskThatIsDown(t *testing.T) {
	d := with(t, appends("a", "abcd"), syncs("a"), appends("a", "ef"), fuses(0))
	for name, e := range map[string]api.Errno{
		"Append":                     d.Append("a", "x"),
		"Append to no name":          d.Append("", "x"),
		"Append of too much":         d.Append("a", strings.Repeat("x", 200)),
		"Append to a new file":       d.Append("b", ""),
		"Sync":                       d.Sync("a"),
		"Sync of no file":            d.Sync("b"),
		"Cut":                        d.Cut("a", 1),
		"Cut of no file":             d.Cut("b", 1),
		"Cut below 0":                d.Cut("a", -1),
		"Rename":                     d.Rename("a", "b"),
		"Rename of no file":          d.Rename("b", "a"),
		"Rename to no name":          d.Rename("a", ""),
		"Rename to the name it has":  d.Rename("a", "a"),
		"Drop":                       d.Drop("a"),
		"Drop of no file":            d.Drop("b"),
		"Rename to a name too long":  d.Rename("a", strings.Repeat("n", 41)),
		"Cut to more than it has":    d.Cut("a", 7),
		"Append to a name too long":  d.Append(strings.Repeat("n", 41), ""),
		"Cut to just what it has":    d.Cut("a", 6),
		"Append of nothing to a one": d.Append("a", ""),
	} {
		if e != api.ErrDown {
			t.Errorf("P3.2: %s, while the disk is down: %d, want ErrDown", name, e)
		}
	}
	for _, name := range []string{"a", "b", ""} {
		if s, e := d.Read(name); s != "" || e != api.ErrDown {
			t.Errorf("P3.2: Read(%q), while the disk is down: %q, %d, want ErrDown", name, s, e)
		}
	}
	if d.Up() || len(d.Names()) != 0 || d.Used() != 6 || d.Room() != 100 {
		t.Errorf("P3.1: down: %t, %q, %d, %d", d.Up(), d.Names(), d.Used(), d.Room())
	}
	d.Fuse(-1)
	expect(t, "P3.2: behind ErrDown", d, "a=abcdef;")
}

func TestAppend(t *testing.T) {
	longest := strings.Repeat("n", 40)
	d := with(t)
	for _, name := range []string{"", longest + "n", strings.Repeat("n", 1000)} {
		if e := d.Append(name, "x"); e != api.ErrArg {
			t.Errorf("P3.2: Append to a name of %d bytes: %d, want ErrArg", len(name), e)
		}
		if e := d.Append(name, strings.Repeat("x", 101)); e != api.ErrArg {
			t.Errorf("P3.2: Append of too much to a name of %d bytes: %d, want ErrArg", len(name), e)
		}
	}
	if e := d.Append("a", strings.Repeat("x", 101)); e != api.ErrFull {
		t.Errorf("P3.2: Append of 101 bytes, with room for 100: %d, want ErrFull", e)
	}
	expect(t, "P3.2: behind wrong calls", d, "")
	for _, step := range []func(*disk.Disk) api.Errno{appends("b", ""), appends(longest, "12"), appends("n", "\x00\xff"), appends("n", ""), appends("n", "z")} {
		if e := step(d); e != api.OK {
			t.Errorf("P3.2: Append: %d", e)
		}
	}
	expect(t, "P3.2", d, "b=;n=\x00\xffz;"+longest+"=12;")
}

func TestAppendUpToTheRoom(t *testing.T) {
	d := with(t, appends("a", strings.Repeat("x", 60)), appends("b", strings.Repeat("y", 39)))
	if e := d.Append("c", "zz"); e != api.ErrFull {
		t.Errorf("P3.2: Append of 2 bytes, with room for 1: %d, want ErrFull", e)
	}
	if e := d.Append("c", "z"); e != api.OK || d.Used() != 100 {
		t.Errorf("P3.2: Append of the last byte: %d, %d", e, d.Used())
	}
	for _, name := range []string{"a", "c", "d"} {
		if e := d.Append(name, "z"); e != api.ErrFull {
			t.Errorf("P3.2: Append to %s of a full disk: %d, want ErrFull", name, e)
		}
	}
	if e := d.Append("d", ""); e != api.OK {
		t.Errorf("P3.2: Append of nothing to a full disk: %d", e)
	}
	for name, free := range map[string]func(*disk.Disk) api.Errno{
		"Drop": drops("c"), "Cut": cuts("a", 59), "Rename upon it": renames("d", "c"),
		"Crash": func(d *disk.Disk) api.Errno { d.Crash([]int{60, 39}); return api.OK },
	} {
		c := d.Copy()
		if e := free(c); e != api.OK {
			t.Errorf("%s: %d", name, e)
		}
		if e := c.Append("e", "zz"); e != api.ErrFull {
			t.Errorf("P3.2: Append of 2 bytes behind %s of one: %d, want ErrFull", name, e)
		}
		if e := c.Append("e", "z"); e != api.OK || c.Used() != 100 {
			t.Errorf("P3.2: Append of 1 byte behind %s of one: %d, %d", name, e, c.Used())
		}
	}
}

func TestFilesThatAreNotThere(t *testing.T) {
	d := with(t, appends("a", "abc"), appends("gone", "x"), drops("gone"))
	for _, name := range []string{"b", "gone", "", "A", strings.Repeat("n", 41)} {
		if s, e := d.Read(name); s != "" || e != api.ErrNone {
			t.Errorf("P3.2: Read(%q): %q, %d, want ErrNone", name, s, e)
		}
		for call, e := range map[string]api.Errno{
			"Sync": d.Sync(name), "Drop": d.Drop(name),
			"Cut to 0": d.Cut(name, 0), "Cut to -1": d.Cut(name, -1), "Cut to 9": d.Cut(name, 9),
			"Rename to b": d.Rename(name, "b"), "Rename to a": d.Rename(name, "a"),
			"Rename to itself": d.Rename(name, name), "Rename to nothing": d.Rename(name, ""),
			"Rename to too long a name": d.Rename(name, strings.Repeat("n", 41)),
		} {
			if e != api.ErrNone {
				t.Errorf("P3.2: %s of %q: %d, want ErrNone", call, name, e)
			}
		}
	}
	expect(t, "P3.2: behind ErrNone", d, "a=abc;")
}

func TestCut(t *testing.T) {
	d := with(t, appends("a", "abcd"), syncs("a"), appends("a", "efgh"))
	for _, n := range []int{-1, math.MinInt, 9, math.MaxInt} {
		if e := d.Cut("a", n); e != api.ErrArg {
			t.Errorf("P3.2: Cut to %d of 8: %d, want ErrArg", n, e)
		}
	}
	expect(t, "P3.2: behind wrong cuts", d, "a=abcdefgh;")
	for _, c := range []struct {
		n           int
		left, saved string
	}{{8, "abcdefgh", "abcd"}, {6, "abcdef", "abcd"}, {4, "abcd", "abcd"}, {3, "abc", "abc"}, {0, "", ""}} {
		one := d.Copy()
		if e := one.Cut("a", c.n); e != api.OK {
			t.Errorf("P3.2: Cut to %d of 8: %d", c.n, e)
		}
		expect(t, "P3.2: Cut", one, "a="+c.left+";")
		one.Append("a", "XY")
		expect(t, "P3.2: Append behind Cut", one, "a="+c.left+"XY;")
		one.Crash(nil)
		expect(t, "P3.2: what is safe behind Cut", one, "a="+c.saved+";")
	}
}

func TestRename(t *testing.T) {
	longest := strings.Repeat("n", 40)
	d := with(t, appends("a", "abcd"), syncs("a"), appends("a", "ef"), appends("b", "12345"), syncs("b"))
	for _, name := range []string{"", longest + "n"} {
		if e := d.Rename("a", name); e != api.ErrArg {
			t.Errorf("P3.2: Rename to a name of %d bytes: %d, want ErrArg", len(name), e)
		}
	}
	expect(t, "P3.2: behind wrong names", d, "a=abcdef;b=12345;")
	for _, c := range []struct{ name, files, saved string }{
		{"a", "a=abcdef;b=12345;", "a=abcd;b=12345;"},
		{"b", "b=abcdef;", "b=abcd;"},
		{"c", "b=12345;c=abcdef;", "b=12345;c=abcd;"},
		{longest, "b=12345;" + longest + "=abcdef;", "b=12345;" + longest + "=abcd;"},
	} {
		one := d.Copy()
		if e := one.Rename("a", c.name); e != api.OK {
			t.Errorf("P3.2: Rename to %s: %d", c.name, e)
		}
		expect(t, "P3.2: Rename to "+c.name, one, c.files)
		if n := one.Crash(nil); n != 1 {
			t.Errorf("P3.4: Crash behind Rename to %s: %d", c.name, n)
		}
		expect(t, "P3.2: sure at once: Rename to "+c.name, one, c.saved)
	}
}

func TestDropIsSureAtOnce(t *testing.T) {
	d := with(t, appends("a", "abcd"), syncs("a"), appends("b", "12"), drops("a"))
	expect(t, "P3.2: Drop", d, "b=12;")
	d.Crash([]int{9})
	expect(t, "P3.2: Crash behind Drop", d, "b=12;")
	d.Append("a", "new")
	expect(t, "P3.2: Append behind Drop", d, "a=new;b=12;")
	d.Crash(nil)
	expect(t, "P3.2: nothing is safe of a file made behind Drop", d, "a=;b=12;")
}

func TestSync(t *testing.T) {
	d := with(t, appends("a", "abcd"), appends("b", "12"), syncs("a"), syncs("a"), appends("a", "e"), syncs("a"))
	if n := d.Crash(nil); n != 1 {
		t.Errorf("P3.4: Crash: %d, want 1: b alone waits", n)
	}
	expect(t, "P3.2: all of a file that was synced is safe", d, "a=abcde;b=;")
}

func TestFuse(t *testing.T) {
	d := with(t, appends("a", "abcd"), appends("b", ""))
	for _, n := range []int{-2, math.MinInt} {
		for _, was := range []int{-1, 0, 1} {
			d.Fuse(was)
			if e := d.Fuse(n); e != api.ErrArg || d.Up() != (was != 0) {
				t.Errorf("P3.3: Fuse(%d): %d, %t, want ErrArg", n, e, d.Up())
			}
		}
	}
	if e := d.Append("b", ""); e != api.OK || d.Up() {
		t.Errorf("P3.3: a wrong Fuse changed the fuse: %d, %t", e, d.Up())
	}
	for _, n := range []int{math.MaxInt, 0, 7, 0, -1, 0} {
		if e := d.Fuse(n); e != api.OK || d.Up() != (n != 0) {
			t.Errorf("P3.3: Fuse(%d): %d, %t", n, e, d.Up())
		}
	}
	for n := range 5 {
		d.Fuse(n)
		for i := range 8 {
			want := api.OK
			if i >= n {
				want = api.ErrDown
			}
			if e := d.Append("b", ""); e != want {
				t.Errorf("P3.5: change %d with a fuse of %d: %d, want %d", i, n, e, want)
			}
		}
	}
	d.Fuse(0)
	d.Fuse(-1)
	for range 50 {
		d.Append("b", "")
	}
	if !d.Up() {
		t.Error("P3.3: Fuse(-1) leaves a fuse")
	}
}

func TestEachChangeBurnsTheFuse(t *testing.T) {
	for name, change := range changes() {
		d := with(t, appends("a", "abcd"), appends("b", ""), syncs("b"), fuses(1))
		if e := change(d); e != api.OK || d.Up() {
			t.Errorf("P3.5: %s with a fuse of 1: %d, up %t", name, e, d.Up())
		}
		d.Fuse(-1)
		after := told(t, d)
		d = with(t, appends("a", "abcd"), appends("b", ""), syncs("b"), fuses(2))
		if e := change(d); e != api.OK || !d.Up() {
			t.Errorf("P3.5: %s with a fuse of 2: %d, up %t", name, e, d.Up())
		}
		expect(t, "P3.5: "+name, d, after)
	}
}

func TestOtherCallsBurnNothing(t *testing.T) {
	d := with(t, appends("a", "abcd"), fuses(1))
	d.Read("a")
	d.Names()
	d.Used()
	d.Room()
	d.Up()
	d.Copy()
	d.Fuse(-2)
	d.Read("b")
	d.Append("", "")
	d.Append("a", strings.Repeat("x", 97))
	d.Sync("b")
	d.Cut("b", 0)
	d.Cut("a", 5)
	d.Rename("b", "c")
	d.Rename("a", "")
	d.Drop("b")
	if e := d.Append("a", "e"); e != api.OK || d.Up() {
		t.Errorf("P3.5: the first change with a fuse of 1: %d, up %t", e, d.Up())
	}
}

// TestCrash has files a, c, d and e of which something waits, and b and f of which nothing does.
func TestCrash(t *testing.T) {
	d := with(t, appends("a", "abcd"), syncs("a"), appends("a", "ef"), appends("b", "safe"), syncs("b"),
		appends("d", "12"), syncs("d"), appends("d", "345"), appends("c", "wait"), appends("e", "E"), appends("f", ""))
	for _, c := range []struct {
		keep  []int
		files string
	}{
		{nil, "a=abcd;b=safe;c=;d=12;e=;f=;"},
		{[]int{1}, "a=abcde;b=safe;c=;d=12;e=;f=;"},
		{[]int{2, 3, 1, 0}, "a=abcdef;b=safe;c=wai;d=123;e=;f=;"},
		{[]int{3, 9, math.MaxInt, 1}, "a=abcdef;b=safe;c=wait;d=12345;e=E;f=;"},
		{[]int{-1, 1, math.MinInt, 2}, "a=abcd;b=safe;c=w;d=12;e=E;f=;"},
		{[]int{0, 0, 0, 0, 5, 5, 5}, "a=abcd;b=safe;c=;d=12;e=;f=;"},
	} {
		for _, fuse := range []int{-1, 0, 1} {
			one := d.Copy()
			one.Fuse(fuse)
			handed := slices.Clone(c.keep)
			if n := one.Crash(handed); n != 4 || !one.Up() {
				t.Errorf("P3.4: Crash(%v) with a fuse of %d: %d, up %t, want 4", c.keep, fuse, n, one.Up())
			}
			if !slices.Equal(handed, c.keep) {
				t.Errorf("R5: Crash changed what it was handed to %v", handed)
			}
			expect(t, "P3.4: Crash", one, c.files)
			if n := one.Crash([]int{0, 0, 0, 0, 0}); n != 0 {
				t.Errorf("P3.4: something waits behind Crash(%v): %d", c.keep, n)
			}
			expect(t, "P3.4: what was kept is safe", one, c.files)
			for range 5 {
				if e := one.Append("f", "x"); e != api.OK {
					t.Errorf("P3.4: there is a fuse behind Crash: %d", e)
				}
			}
		}
	}
}

func TestCrashOfAFreshDisk(t *testing.T) {
	d := with(t)
	if n := d.Crash([]int{1, 2, 3}); n != 0 {
		t.Errorf("P3.4: Crash without files: %d", n)
	}
	d = with(t, appends("a", "abcd"), syncs("a"), appends("a", "ef"))
	if n := d.Crash([]int{1}); n != 1 {
		t.Errorf("P3.4: the chapter's example: %d", n)
	}
	expect(t, "P3.4: the chapter's example", d, "a=abcde;")
}

func TestCopy(t *testing.T) {
	for name, change := range changes() {
		d := with(t, appends("a", "abcd"), appends("b", ""), syncs("b"))
		before := told(t, d)
		c := d.Copy()
		if c == d || c.Room() != 100 {
			t.Fatalf("P3.4: Copy: %p of %p, room %d", c, d, c.Room())
		}
		expect(t, "P3.4: Copy", c, before)
		change(d)
		expect(t, "P3.4: a copy behind "+name+" of the first one", c, before)
		d = c.Copy()
		change(c)
		expect(t, "P3.4: the first one behind "+name+" of a copy", d, before)
	}
}

func TestCopyHasTheSameBytesAndFuse(t *testing.T) {
	d := with(t, appends("a", "abcd"), syncs("a"), appends("a", "ef"), fuses(2), syncs("a"), appends("a", "gh"))
	c := d.Copy()
	if d.Up() || c.Up() {
		t.Errorf("P3.4: Copy of a disk that is down: up %t, %t", d.Up(), c.Up())
	}
	c.Fuse(2)
	if d.Up() {
		t.Error("P3.4: Fuse of a copy changes the first one")
	}
	again := c.Copy()
	for i, want := range []api.Errno{api.OK, api.OK, api.ErrDown} {
		if e := again.Append("a", "i"); e != want {
			t.Errorf("P3.4: change %d of a copy with a fuse of 2: %d, want %d", i, e, want)
		}
	}
	if n := c.Crash([]int{1}); n != 1 {
		t.Errorf("P3.4: Crash of a copy: %d", n)
	}
	expect(t, "P3.4: what is safe of a copy", c, "a=abcdefg;")
	d.Fuse(-1)
	expect(t, "P3.4: behind all that was done to copies", d, "a=abcdefgh;")
}

// TestCopiesShareNothing puts other bytes behind the same ones, where there may be spare room that two disks could share.
func TestCopiesShareNothing(t *testing.T) {
	d := with(t)
	bytes := ""
	for range 20 {
		d.Append("a", "x")
		bytes += "x"
		one, other := d.Copy(), d.Copy()
		one.Append("a", "1")
		other.Append("a", "2")
		again := d.Copy()
		again.Append("a", "3")
		expect(t, "P3.4: the first copy", one, "a="+bytes+"1;")
		expect(t, "P3.4: the second copy", other, "a="+bytes+"2;")
		expect(t, "P3.4: the third copy", again, "a="+bytes+"3;")
		expect(t, "P3.4: the disk itself", d, "a="+bytes+";")
	}
}

func TestNilDisk(t *testing.T) {
	var d *disk.Disk
	s, e := d.Read("a")
	for call, e := range map[string]api.Errno{
		"Append": d.Append("a", "x"), "Sync": d.Sync("a"), "Read": e, "Cut": d.Cut("a", 0),
		"Rename": d.Rename("a", "b"), "Drop": d.Drop("a"), "Fuse": d.Fuse(1), "Fuse of -1": d.Fuse(-1),
	} {
		if e != api.ErrArg {
			t.Errorf("P3.2: %s of a nil disk: %d, want ErrArg", call, e)
		}
	}
	if s != "" || len(d.Names()) != 0 || d.Used() != 0 || d.Room() != 0 || d.Up() || d.Crash([]int{1}) != 0 || d.Copy() != nil {
		t.Error("P3.2: a nil disk tells something")
	}
}

// TestDiskThatWasNotMadeByNew has no room, and no call of it panics.
func TestDiskThatWasNotMadeByNew(t *testing.T) {
	d := &disk.Disk{}
	if e := d.Append("a", "x"); e != api.ErrFull {
		t.Errorf("R1: Append of a byte: %d, want ErrFull", e)
	}
	if e := d.Append("a", ""); e != api.OK {
		t.Errorf("R1: Append of nothing: %d", e)
	}
	expect(t, "R1", d, "a=;")
	if e := (&disk.Disk{}).Copy().Append("a", ""); e != api.OK {
		t.Errorf("R1: Append to a copy: %d", e)
	}
	(&disk.Disk{}).Crash(nil)
}
