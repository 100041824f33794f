package disk_test

import (
	"maps"
	"math/rand"
	"slices"
	"strings"
	"testing"

	"flotsam/api"
	"flotsam/disk"
)

// plain is a disk word by word as the document has it: each file is a list of bytes, and each byte is safe or waits.
type plain struct {
	room  int
	fuse  int
	files map[string][]plainByte
}

type plainByte struct {
	b    byte
	safe bool
}

func (p *plain) used() int {
	n := 0
	for _, f := range p.files {
		n += len(f)
	}
	return n
}

func (p *plain) clone() *plain {
	c := &plain{room: p.room, fuse: p.fuse, files: map[string][]plainByte{}}
	for name, f := range p.files {
		c.files[name] = slices.Clone(f)
	}
	return c
}

func (p *plain) read(name string) (string, api.Errno) {
	f, there := p.files[name]
	if p.fuse == 0 {
		return "", api.ErrDown
	}
	if !there {
		return "", api.ErrNone
	}
	var s strings.Builder
	for _, b := range f {
		s.WriteByte(b.b)
	}
	return s.String(), api.OK
}

// change does one of the five, and burns the fuse, if it went.
func (p *plain) change(call string, name string, other string, n int) api.Errno {
	if p.fuse == 0 {
		return api.ErrDown
	}
	e := p.try(call, name, other, n)
	if e == api.OK && p.fuse > 0 {
		p.fuse--
	}
	return e
}

func (p *plain) try(call string, name string, other string, n int) api.Errno {
	f, there := p.files[name]
	if call == "Append" {
		if len(name) == 0 || len(name) > 40 {
			return api.ErrArg
		}
		if p.used()+len(other) > p.room {
			return api.ErrFull
		}
		for _, b := range []byte(other) {
			f = append(f, plainByte{b, false})
		}
		p.files[name] = f
		return api.OK
	}
	if !there {
		return api.ErrNone
	}
	switch call {
	case "Sync":
		for i := range f {
			f[i].safe = true
		}
	case "Cut":
		if n < 0 || n > len(f) {
			return api.ErrArg
		}
		p.files[name] = f[:n:n]
	case "Rename":
		if len(other) == 0 || len(other) > 40 {
			return api.ErrArg
		}
		delete(p.files, name)
		p.files[other] = f
	case "Drop":
		delete(p.files, name)
	}
	return api.OK
}

func (p *plain) crash(keep []int) int {
	torn := 0
	for _, name := range slices.Sorted(maps.Keys(p.files)) {
		var left []plainByte
		waits := 0
		for _, b := range p.files[name] {
			if b.safe || torn < len(keep) && waits < keep[torn] {
				left = append(left, plainByte{b.b, true})
			}
			if !b.safe {
				waits++
			}
		}
		p.files[name] = left
		if waits > 0 {
			torn++
		}
	}
	p.fuse = -1
	return torn
}

func doTo(d *disk.Disk, call string, name string, other string, n int) api.Errno {
	switch call {
	case "Append":
		return d.Append(name, other)
	case "Sync":
		return d.Sync(name)
	case "Cut":
		return d.Cut(name, n)
	case "Rename":
		return d.Rename(name, other)
	}
	return d.Drop(name)
}

func alike(t *testing.T, d *disk.Disk, p *plain, names []string) {
	t.Helper()
	if d.Used() != p.used() || d.Room() != p.room || d.Up() != (p.fuse != 0) {
		t.Fatalf("P3.1: %d, %d, %t, want %d, %d, %t", d.Used(), d.Room(), d.Up(), p.used(), p.room, p.fuse != 0)
	}
	want := slices.Sorted(maps.Keys(p.files))
	if p.fuse == 0 {
		want = nil
	}
	if got := d.Names(); !slices.Equal(got, want) {
		t.Fatalf("P3.1: Names: %q, want %q", got, want)
	}
	for _, name := range names {
		s, e := d.Read(name)
		wantS, wantE := p.read(name)
		if s != wantS || e != wantE {
			t.Fatalf("P3.2: Read(%q): %q, %d, want %q, %d", name, s, e, wantS, wantE)
		}
	}
}

// TestManySteps does the same steps, whatever comes, to a disk and to one as the document has it.
func TestManySteps(t *testing.T) {
	names := []string{"a", "b", "c", "b.new", "", strings.Repeat("n", 40), strings.Repeat("n", 41)}
	calls := []string{"Append", "Append", "Append", "Sync", "Cut", "Rename", "Drop"}
	for seed := range int64(200) {
		r := rand.New(rand.NewSource(seed))
		room := 1 + r.Intn(60)
		d, _ := disk.New(room)
		p := &plain{room: room, fuse: -1, files: map[string][]plainByte{}}
		for range 200 {
			name, other, n := names[r.Intn(len(names))], names[r.Intn(len(names))], r.Intn(14)-2
			switch r.Intn(20) {
			case 0:
				fuse := r.Intn(12) - 1
				p.fuse = fuse
				d.Fuse(fuse)
			case 1:
				keep := []int{r.Intn(8) - 2, r.Intn(8) - 2, r.Intn(8) - 2, r.Intn(8) - 2}[:r.Intn(5)]
				if n, want := d.Crash(keep), p.crash(keep); n != want {
					t.Fatalf("P3.4: Crash: %d, want %d", n, want)
				}
			case 2:
				left := d
				d = d.Copy()
				left.Append("a", "left behind")
				left.Crash(nil)
				p = p.clone()
			default:
				call := calls[r.Intn(len(calls))]
				if call == "Append" {
					other = strings.Repeat(string([]byte{byte(r.Intn(256))}), r.Intn(8))
				}
				e, want := doTo(d, call, name, other, n), p.change(call, name, other, n)
				if e != want {
					t.Fatalf("P3.2: %s(%q, %q, %d): %d, want %d", call, name, other, n, e, want)
				}
			}
			alike(t, d, p, names)
		}
	}
}
