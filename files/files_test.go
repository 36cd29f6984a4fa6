package files

import (
	"reflect"
	"slices"
	"testing"

	"ferry/api"
	"ferry/cpu"
)

// words gives so many words: from, from + 1 and so on.
func words(from, n int) []cpu.Word {
	l := make([]cpu.Word, n)
	for i := range l {
		l[i] = cpu.Word(from + i)
	}
	return l
}

// is asks that a call came to its end with such a result, and such a fault.
func is(t *testing.T, why string, a cpu.Answer, n, what cpu.Word) {
	t.Helper()
	if a.Result != n || a.Wrong != what || a.Blocked != nil {
		t.Errorf("P6: %s: %d, %d, blocked %v; want %d, %d", why, a.Result, a.Wrong, a.Blocked != nil, n, what)
	}
}

// reads asks that a Read of at most n words brings these.
func reads(t *testing.T, why string, o Open, n int, want ...cpu.Word) {
	t.Helper()
	into := slices.Repeat([]cpu.Word{4242}, n)
	is(t, why, o.Read(into), cpu.Word(len(want)), 0)
	if !slices.Equal(into[:len(want)], want) || slices.ContainsFunc(into[len(want):], func(w cpu.Word) bool { return w != 4242 }) {
		t.Errorf("P6: %s: %v, want %v", why, into, want)
	}
}

// lists asks for a name, how often it is open and how many words, of each file.
func lists(t *testing.T, why string, d *Disk, want ...[3]int) {
	t.Helper()
	var got [][3]int
	for _, f := range d.List() {
		got = append(got, [3]int{f.Name, f.Opens, len(f.Words)})
	}
	if !slices.Equal(got, want) {
		t.Errorf("P10: %s: %v, want %v", why, got, want)
	}
}

func TestFileReads(t *testing.T) {
	var d Disk
	d.Make(3, words(10, 5))
	o := d.Open(3)
	reads(t, "no words", o, 0)
	reads(t, "some", o, 2, 10, 11)
	reads(t, "the rest", o, 9, 12, 13, 14)
	reads(t, "at the end", o, 9)
	is(t, "Seek", o.Seek(4), 0, 0)
	reads(t, "the last", o, 1, 14)
	is(t, "Seek behind the end", o.Seek(64), 0, 0)
	reads(t, "behind the end", o, 9)
	is(t, "Seek to the start", o.Seek(0), 0, 0)
	reads(t, "all", o, 5, 10, 11, 12, 13, 14)
}

func TestFileSeeks(t *testing.T) {
	var d Disk
	d.Make(0, words(1, 3))
	o := d.Open(0)
	is(t, "Seek", o.Seek(1), 0, 0)
	for _, place := range []int{65, 66, 65535} {
		is(t, "Seek too far", o.Seek(place), 0, api.BadArg)
	}
	reads(t, "the place is as it was", o, 9, 2, 3)
}

func TestFileWrites(t *testing.T) {
	var d Disk
	d.Make(0, words(1, 3))
	o := d.Open(0)
	o.Seek(2)
	source := words(50, 2)
	is(t, "over the end", o.Write(source), 2, 0)
	source[0] = 4242
	is(t, "on", o.Write(words(60, 1)), 1, 0)
	o.Seek(8)
	is(t, "behind the end", o.Write(words(70, 2)), 2, 0)
	o.Seek(0)
	is(t, "at the start", o.Write(words(80, 1)), 1, 0)
	reads(t, "the place is behind it", o, 2, 2, 50)
	if l := d.List(); !reflect.DeepEqual(l, []api.File{{Name: 0, Opens: 1, Words: []int{80, 2, 50, 51, 60, 0, 0, 0, 70, 71}}}) {
		t.Errorf("P6: behind Write: %v", l)
	}
}

func TestFileWritesNoWords(t *testing.T) {
	var d Disk
	for name := range 5 {
		d.Make(name, words(0, 64))
	}
	d.Make(5, nil)
	o := d.Open(5)
	for _, place := range []int{0, 9, 64} {
		o.Seek(place)
		is(t, "no words", o.Write(nil), 0, 0)
	}
	if l := d.List(); len(l[5].Words) != 0 {
		t.Errorf("P6: no words changed something: %v", l[5])
	}
}

func TestFileTooBig(t *testing.T) {
	for _, c := range []struct {
		place, n int
		what     cpu.Word
		size     int
	}{
		{0, 64, 0, 64}, {1, 63, 0, 64}, {63, 1, 0, 64}, {64, 0, 0, 3},
		{0, 65, api.TooBig, 3}, {1, 64, api.TooBig, 3}, {63, 2, api.TooBig, 3}, {64, 1, api.TooBig, 3}, {0, 128, api.TooBig, 3},
	} {
		var d Disk
		d.Make(0, words(1, 3))
		o := d.Open(0)
		o.Seek(c.place)
		a := o.Write(words(0, c.n))
		if c.what != 0 {
			c.n = 0
		}
		is(t, "Write", a, cpu.Word(c.n), c.what)
		lists(t, "written", &d, [3]int{0, 1, c.size})
	}
}

func TestFileTooBigLeavesThePlace(t *testing.T) {
	var d Disk
	d.Make(0, nil)
	o := d.Open(0)
	o.Seek(2)
	is(t, "too big", o.Write(words(1, 63)), 0, api.TooBig)
	is(t, "not too big", o.Write(words(1, 1)), 1, 0)
	if l := d.Words(0); !slices.Equal(l, []cpu.Word{0, 0, 1}) {
		t.Errorf("P6: written at another place: %v", l)
	}
}

// crowded gives a disk of which 39 blocks are taken, by the names 0 to 4, the last of which has 50 words in 7 blocks.
func crowded() *Disk {
	d := &Disk{}
	for name := range 4 {
		d.Make(name, words(0, 64))
	}
	d.Make(4, words(0, 50))
	return d
}

func TestDiskIsFull(t *testing.T) {
	d := crowded()
	d.Make(9, nil)
	o := d.Open(9)
	is(t, "two blocks", o.Write(words(0, 9)), 0, api.NoSpace)
	o.Seek(8)
	is(t, "a gap counts too", o.Write(words(0, 1)), 0, api.NoSpace)
	o.Seek(60)
	is(t, "TooBig is told first", o.Write(words(0, 9)), 0, api.TooBig)
	lists(t, "nothing is changed", d, [3]int{0, 0, 64}, [3]int{1, 0, 64}, [3]int{2, 0, 64}, [3]int{3, 0, 64}, [3]int{4, 0, 50}, [3]int{9, 1, 0})
	o.Seek(0)
	is(t, "one block", o.Write(words(0, 1)), 1, 0)
	is(t, "within its block", o.Write(words(0, 7)), 7, 0)
	is(t, "beyond it", o.Write(words(0, 1)), 0, api.NoSpace)
	big := d.Open(4)
	big.Seek(48)
	is(t, "within another one's last block", big.Write(words(0, 8)), 8, 0)
	is(t, "beyond that", big.Write(words(0, 1)), 0, api.NoSpace)
	big.Seek(0)
	is(t, "over what is there", big.Write(words(0, 56)), 56, 0)
}

func TestDiskGetsBlocksBack(t *testing.T) {
	d := crowded()
	d.Make(9, nil)
	o, other, again := d.Open(9), d.Open(0), d.Open(0)
	is(t, "one block", o.Write(words(0, 8)), 8, 0)
	d.Unlink(0)
	is(t, "open without a name", o.Write(words(0, 1)), 0, api.NoSpace)
	other.close()
	is(t, "open yet", o.Write(words(0, 1)), 0, api.NoSpace)
	again.close()
	is(t, "closed", o.Write(words(0, 56)), 56, 0)
	d.Unlink(1)
	d.Make(0, nil)
	n := d.Open(0)
	is(t, "a name lost", n.Write(words(0, 64)), 64, 0)
	d.Unlink(9)
	o.Seek(60)
	is(t, "without a name, full", o.Write(words(0, 4)), 4, 0)
}

func TestNames(t *testing.T) {
	var d Disk
	for name := range 4 {
		d.Make(name, words(name, name))
	}
	d.Make(15, nil)
	lists(t, "names", &d, [3]int{0, 0, 0}, [3]int{1, 0, 1}, [3]int{2, 0, 2}, [3]int{3, 0, 3}, [3]int{15, 0, 0})
	three, one, twice := d.Open(3), d.Open(1), d.Open(1)
	d.Unlink(3)
	d.Unlink(2)
	d.Unlink(1)
	lists(t, "in the order in which they lost it", &d, [3]int{0, 0, 0}, [3]int{15, 0, 0}, [3]int{-1, 1, 3}, [3]int{-1, 2, 1})
	if d.Has(1) || d.Has(2) || d.Has(14) || !d.Has(0) || !d.Has(15) {
		t.Errorf("P6: names: %v", d.List())
	}
	d.Make(3, words(7, 4))
	reads(t, "the old one", three, 9, 3, 4, 5)
	reads(t, "the new one", d.Open(3), 9, 7, 8, 9, 10)
	one.close()
	three.close()
	lists(t, "closed", &d, [3]int{0, 0, 0}, [3]int{3, 1, 4}, [3]int{15, 0, 0}, [3]int{-1, 1, 1})
	twice.close()
	lists(t, "closed both", &d, [3]int{0, 0, 0}, [3]int{3, 1, 4}, [3]int{15, 0, 0})
}

func TestEachOpenFileHasAPlace(t *testing.T) {
	var d Disk
	d.Make(0, words(1, 3))
	one, other := d.Open(0), d.Open(0)
	reads(t, "one", one, 2, 1, 2)
	reads(t, "the other", other, 1, 1)
	is(t, "the other writes", other.Write(words(8, 2)), 2, 0)
	reads(t, "one reads it", one, 9, 9)
	lists(t, "open twice", &d, [3]int{0, 2, 3})
}

func TestWordsAreACopy(t *testing.T) {
	var d Disk
	d.Make(0, words(1, 3))
	d.Words(0)[1] = 9
	d.List()[0].Words[2] = 9
	if l := d.Words(0); !slices.Equal(l, words(1, 3)) {
		t.Errorf("P2: a file was written into: %v", l)
	}
}

func TestPipe(t *testing.T) {
	r, w := NewPipe()
	is(t, "write", w.Write(words(1, 3)), 3, 0)
	reads(t, "some", r, 2, 1, 2)
	is(t, "behind what is there", w.Write(words(10, 2)), 2, 0)
	reads(t, "the rest", r, 9, 3, 10, 11)
	is(t, "as many as there is room for", w.Write(words(1, 20)), 16, 0)
	reads(t, "the first", r, 1, 1)
	is(t, "as many again", w.Write(words(30, 2)), 1, 0)
	reads(t, "all of it", r, 20, append(words(2, 15), 30)...)
}

func TestPipeRefuses(t *testing.T) {
	r, w := NewPipe()
	is(t, "Write at the reading end", r.Write(words(1, 1)), 0, api.BadFd)
	is(t, "Write of no words there", r.Write(nil), 0, api.BadFd)
	is(t, "Read at the writing end", w.Read(words(1, 1)), 0, api.BadFd)
	is(t, "Read of no words there", w.Read(nil), 0, api.BadFd)
	for _, place := range []int{0, 65} {
		is(t, "Seek at the reading end", r.Seek(place), 0, api.BadFd)
		is(t, "Seek at the writing end", w.Seek(place), 0, api.BadFd)
	}
}

func TestReaderIsBlocked(t *testing.T) {
	r, w := NewPipe()
	reads(t, "no words", r, 0)
	a := r.Read(words(1, 5))
	if a.Blocked == nil || !a.Blocked() || a.Result != 0 || a.Wrong != 0 {
		t.Fatalf("P6: an empty pipe: %v", a)
	}
	w.Write(words(1, 1))
	if a.Blocked() {
		t.Error("P8: Blocked, although there is a word")
	}
	reads(t, "another reads it", r, 9, 1)
	if !a.Blocked() {
		t.Error("P8: not Blocked again")
	}
	w.close()
	if a.Blocked() {
		t.Error("P8: Blocked, although nobody writes")
	}
	reads(t, "nobody writes", r, 9)
}

func TestReaderGetsTheRest(t *testing.T) {
	r, w := NewPipe()
	w.Write(words(1, 3))
	w.close()
	reads(t, "some", r, 2, 1, 2)
	reads(t, "the rest", r, 2, 3)
	reads(t, "nothing", r, 2)
}

func TestWriterIsBlocked(t *testing.T) {
	r, w := NewPipe()
	w.Write(words(1, 16))
	is(t, "no words", w.Write(nil), 0, 0)
	a := w.Write(words(1, 5))
	if a.Blocked == nil || !a.Blocked() || a.Result != 0 || a.Wrong != 0 {
		t.Fatalf("P6: a full pipe: %v", a)
	}
	reads(t, "one word", r, 1, 1)
	if a.Blocked() {
		t.Error("P8: Blocked, although there is room")
	}
	is(t, "another writes", w.Write(words(1, 5)), 1, 0)
	if !a.Blocked() {
		t.Error("P8: not Blocked again")
	}
	r.close()
	if a.Blocked() {
		t.Error("P8: Blocked, although nobody reads")
	}
	is(t, "full, and nobody reads", w.Write(words(1, 5)), 0, api.Broken)
	is(t, "no words, and nobody reads", w.Write(nil), 0, api.Broken)
}

func TestTable(t *testing.T) {
	var table Table
	var d Disk
	d.Make(0, nil)
	for n := range 20 {
		if room := table.Room(); room != 20-n {
			t.Errorf("room for %d more, want %d", room, 20-n)
		}
		if number := table.Add(d.Open(0)); number != n {
			t.Errorf("the number %d, want %d", number, n)
		}
	}
	if table.Room() != 0 {
		t.Errorf("room for %d more", table.Room())
	}
	table.Share(7)
	table.Share(7)
	for _, number := range []int{7, 12, 3, 7} {
		table.Drop(number)
	}
	lists(t, "two are closed", &d, [3]int{0, 18, 0})
	for _, want := range []int{3, 12} {
		o := d.Open(0)
		if number := table.Add(o); number != want || table.Get(number) != o {
			t.Errorf("the number %d, want the least that none has, %d", number, want)
		}
	}
	table.Drop(7)
	lists(t, "nobody is it any more", &d, [3]int{0, 19, 0})
}
