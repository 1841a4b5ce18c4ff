package disk_test

import (
	"bytes"
	"math"
	"slices"
	"testing"

	"interlock/api"
	"interlock/disk"
)

// put is a write that a disk was handed.
type put struct {
	sector int
	b      []byte
}

// crashed: what lasts behind a crash, told byte by byte: of each one the last write that reached it.
func crashed(image []byte, puts []put, keep, torn int) []byte {
	if keep < 0 {
		keep = 0
	}
	after := slices.Clone(image)
	for at := range after {
		for i, p := range puts {
			if p.sector == at/64 && (i < keep || i == keep && at%64 < torn) {
				after[at] = p.b[at%64]
			}
		}
	}
	return after
}

// marked: 64 bytes that tell their places, and differ from those of all other marks at each place.
func marked(mark int) []byte {
	b := make([]byte, 64)
	for i := range b {
		b[i] = byte(mark*67 + i)
	}
	return b
}

func mustNew(t *testing.T, sectors int) *disk.Disk {
	t.Helper()
	d, e := disk.New(sectors)
	if d == nil || e != api.OK {
		t.Fatalf("New(%d): %v, %d", sectors, d, e)
	}
	return d
}

func mustLoad(t *testing.T, image []byte, sectors int) *disk.Disk {
	t.Helper()
	d, e := disk.Load(image, sectors)
	if d == nil || e != api.OK {
		t.Fatalf("Load of %d bytes, %d: %v, %d", len(image), sectors, d, e)
	}
	return d
}

func mustWrite(t *testing.T, d *disk.Disk, puts ...put) {
	t.Helper()
	for _, p := range puts {
		if e := d.Write(p.sector, p.b); e != api.OK {
			t.Fatalf("Write(%d): %d", p.sector, e)
		}
	}
}

// checkRead: all sectors are read so.
func checkRead(t *testing.T, what string, d *disk.Disk, want []byte) {
	t.Helper()
	if d.Size()*64 != len(want) {
		t.Fatalf("%s: Size %d, not %d", what, d.Size(), len(want)/64)
	}
	for sector := range d.Size() {
		b, e := d.Read(sector)
		if e != api.OK || !bytes.Equal(b, want[sector*64:sector*64+64]) {
			t.Fatalf("%s: Read(%d) is %v, %d", what, sector, b, e)
		}
	}
}

// checkLasts: all sectors last so, and are read so, and nothing is to be flushed.
func checkLasts(t *testing.T, what string, d *disk.Disk, want []byte) {
	t.Helper()
	if n := d.Pending(); n != 0 {
		t.Errorf("%s: Pending %d", what, n)
	}
	if image := d.Image(); !bytes.Equal(image, want) {
		t.Fatalf("%s: Image is %v, not %v", what, image, want)
	}
	checkRead(t, what, d, want)
}

func beyondBounds() []int { return []int{math.MinInt, -65536, -1, 0, 65537, 1 << 32, math.MaxInt} }

// P2.1

func TestNew(t *testing.T) {
	for _, sectors := range []int{1, 2, 3, 64, 1000, 65535, 65536} {
		d := mustNew(t, sectors)
		if d.Size() != sectors {
			t.Errorf("New(%d): Size %d", sectors, d.Size())
		}
		checkLasts(t, "a new disk", d, make([]byte, sectors*64))
		d.Crash(0, 0)
		checkLasts(t, "a new disk behind a crash", d, make([]byte, sectors*64))
	}
}

func TestNewWrong(t *testing.T) {
	for _, sectors := range beyondBounds() {
		if d, e := disk.New(sectors); d != nil || e != api.ErrRange {
			t.Errorf("New(%d): %v, %d", sectors, d, e)
		}
	}
}

func TestLoad(t *testing.T) {
	long := make([]byte, 1000)
	for i := range long {
		long[i] = byte(i%251 + 1)
	}
	for _, sectors := range []int{1, 2, 3, 10} {
		for _, size := range []int{0, 1, 63, 64, 65, 127, 128, 129, 191, 192, 193, 639, 640, 641, 1000} {
			want := make([]byte, sectors*64)
			for i := 0; i < size && i < len(want); i++ {
				want[i] = long[i]
			}
			d := mustLoad(t, long[:size], sectors)
			checkLasts(t, "a loaded disk", d, want)
			d.Crash(0, 0)
			checkLasts(t, "a loaded disk behind a crash", d, want)
		}
	}
}

func TestLoadNothing(t *testing.T) {
	for _, image := range [][]byte{nil, {}} {
		checkLasts(t, "a disk of no bytes", mustLoad(t, image, 2), make([]byte, 128))
	}
}

func TestLoadGreatest(t *testing.T) {
	image := bytes.Repeat(marked(5), 65536)
	checkLasts(t, "the greatest disk", mustLoad(t, image, 65536), image)
	checkLasts(t, "the greatest disk, of more bytes", mustLoad(t, append(slices.Clone(image), 1, 2), 65536), image)
}

func TestLoadWrong(t *testing.T) {
	for _, sectors := range beyondBounds() {
		for _, size := range []int{0, 1, 64, 128} {
			if d, e := disk.Load(make([]byte, size), sectors); d != nil || e != api.ErrRange {
				t.Errorf("Load of %d bytes, %d: %v, %d", size, sectors, d, e)
			}
		}
	}
}

func TestLoadedImageAgain(t *testing.T) {
	d := mustNew(t, 3)
	mustWrite(t, d, put{0, marked(1)}, put{2, marked(2)})
	d.Flush()
	mustWrite(t, d, put{1, marked(3)})
	want := slices.Concat(marked(1), make([]byte, 64), marked(2))
	checkLasts(t, "a disk of an image", mustLoad(t, d.Image(), 3), want)
}

// P2.2

func TestReadWrite(t *testing.T) {
	for _, sectors := range []int{1, 2, 65, 65536} {
		for _, sector := range []int{0, sectors / 2, sectors - 1} {
			d := mustNew(t, sectors)
			want := make([]byte, sectors*64)
			mustWrite(t, d, put{sector, marked(1)})
			copy(want[sector*64:], marked(1))
			checkRead(t, "written once", d, want)

			mustWrite(t, d, put{sector, marked(2)})
			copy(want[sector*64:], marked(2))
			checkRead(t, "written twice", d, want)

			d.Flush()
			checkLasts(t, "flushed", d, want)

			mustWrite(t, d, put{sector, make([]byte, 64)})
			checkRead(t, "noughts over it", d, make([]byte, sectors*64))
		}
	}
}

func TestNoSuchSector(t *testing.T) {
	for _, size := range []int{1, 3, 65536} {
		d := mustNew(t, size)
		for _, sector := range []int{math.MinInt, -size, -1, size, size + 1, 1 << 32, math.MaxInt} {
			if b, e := d.Read(sector); len(b) != 0 || e != api.ErrSector {
				t.Errorf("Read(%d) of %d: %v, %d", sector, size, b, e)
			}
			// ErrSector is named first: it is answered for bytes of a wrong number, too.
			for _, n := range []int{0, 63, 64, 65} {
				if e := d.Write(sector, bytes.Repeat([]byte{7}, n)); e != api.ErrSector {
					t.Errorf("Write(%d) of %d: %d", sector, size, e)
				}
			}
		}
		checkLasts(t, "behind wrong sectors", d, make([]byte, size*64))
	}
}

func TestWriteWrongNumberOfBytes(t *testing.T) {
	d := mustNew(t, 2)
	mustWrite(t, d, put{1, marked(1)})
	for _, sector := range []int{0, 1} {
		for _, b := range [][]byte{nil, {}, {7}, bytes.Repeat([]byte{7}, 63), bytes.Repeat([]byte{7}, 65), bytes.Repeat([]byte{7}, 128)} {
			if e := d.Write(sector, b); e != api.ErrRange {
				t.Errorf("Write(%d) of %d bytes: %d", sector, len(b), e)
			}
		}
	}
	want := slices.Concat(make([]byte, 64), marked(1))
	if d.Pending() != 1 {
		t.Errorf("Pending %d", d.Pending())
	}
	checkRead(t, "behind wrong bytes", d, want)
	d.Flush()
	checkLasts(t, "behind wrong bytes and a flush", d, want)
}

func TestPending(t *testing.T) {
	d := mustNew(t, 3)
	check := func(what string, want int) {
		t.Helper()
		if n := d.Pending(); n != want {
			t.Errorf("%s: Pending %d, not %d", what, n, want)
		}
	}
	check("at first", 0)
	mustWrite(t, d, put{0, marked(1)})
	check("one write", 1)
	mustWrite(t, d, put{0, marked(1)})
	check("the same write again", 2)
	mustWrite(t, d, put{0, marked(2)}, put{2, make([]byte, 64)})
	check("four writes", 4)
	d.Read(0)
	d.Image()
	check("four writes, asked", 4)
	d.Flush()
	check("a flush", 0)
	d.Flush()
	check("two flushes", 0)
	mustWrite(t, d, put{1, marked(3)}, put{1, marked(4)})
	check("two writes", 2)
	d.Crash(1, 5)
	check("a crash that keeps one", 0)
	mustWrite(t, d, put{1, marked(3)})
	check("one write behind a crash", 1)
	d.Crash(1, 0)
	check("a crash that keeps all", 0)
	d.Crash(0, 0)
	check("a crash without writes", 0)
}

// P2.3

func TestCrashExample(t *testing.T) {
	d := mustNew(t, 4)
	mustWrite(t, d, put{3, bytes.Repeat([]byte{1}, 64)}, put{3, bytes.Repeat([]byte{2}, 64)})
	d.Crash(1, 2)
	want := slices.Concat(make([]byte, 192), []byte{2, 2}, bytes.Repeat([]byte{1}, 62))
	checkLasts(t, "the example", d, want)
}

// histories: writes since a flush, none to a few, to one sector and to several.
func histories() [][]put {
	return [][]put{
		nil,
		{{0, marked(1)}},
		{{3, marked(1)}},
		{{1, marked(1)}, {1, marked(2)}},
		{{1, marked(1)}, {1, marked(2)}, {1, marked(3)}},
		{{0, marked(1)}, {3, marked(2)}, {1, marked(3)}, {2, marked(4)}},
		{{2, marked(1)}, {1, marked(2)}, {2, marked(3)}, {1, marked(4)}, {2, marked(1)}},
	}
}

func TestCrash(t *testing.T) {
	image := slices.Concat(marked(11), marked(12), marked(13), marked(14))
	for _, puts := range histories() {
		n := len(puts)
		for _, keep := range []int{math.MinInt, -1, 0, 1, 2, n - 1, n, n + 1, math.MaxInt} {
			for _, torn := range []int{math.MinInt, -1, 0, 1, 2, 31, 63, 64, 65, math.MaxInt} {
				d := mustLoad(t, image, 4)
				mustWrite(t, d, puts...)
				if !bytes.Equal(d.Image(), image) {
					t.Fatal("what isn't flushed lasts")
				}
				d.Crash(keep, torn)
				want := crashed(image, puts, keep, torn)
				checkLasts(t, "a crash", d, want)

				// What was lost doesn't come back: there is nothing to flush, and nothing to lose.
				d.Flush()
				checkLasts(t, "a flush behind a crash", d, want)
				d.Crash(math.MaxInt, 64)
				checkLasts(t, "a crash behind a crash", d, want)
			}
		}
	}
}

func TestCrashBehindFlush(t *testing.T) {
	image := make([]byte, 256)
	for _, ahead := range histories() {
		flushed := crashed(image, ahead, len(ahead), 0)
		for _, behind := range histories() {
			for keep := range len(behind) + 1 {
				d := mustNew(t, 4)
				mustWrite(t, d, ahead...)
				d.Flush()
				checkLasts(t, "flushed", d, flushed)
				mustWrite(t, d, behind...)
				d.Crash(keep, 9)
				checkLasts(t, "a crash behind a flush", d, crashed(flushed, behind, keep, 9))
			}
		}
	}
}

func TestWriteBehindCrash(t *testing.T) {
	d := mustNew(t, 2)
	mustWrite(t, d, put{0, marked(1)}, put{1, marked(2)})
	d.Crash(0, 10)
	torn := slices.Concat(marked(1)[:10], make([]byte, 118))
	checkLasts(t, "a torn write", d, torn)
	mustWrite(t, d, put{1, marked(3)})
	checkRead(t, "written behind a crash", d, slices.Concat(torn[:64], marked(3)))
	d.Crash(0, 0)
	checkLasts(t, "lost behind a crash", d, torn)
	mustWrite(t, d, put{1, marked(3)})
	d.Flush()
	d.Crash(0, 0)
	checkLasts(t, "flushed behind a crash", d, slices.Concat(torn[:64], marked(3)))
}

func TestImageIsWhatLasts(t *testing.T) {
	d := mustNew(t, 3)
	mustWrite(t, d, put{1, marked(1)})
	if !bytes.Equal(d.Image(), make([]byte, 192)) {
		t.Error("what isn't flushed lasts")
	}
	checkRead(t, "not flushed", d, slices.Concat(make([]byte, 64), marked(1), make([]byte, 64)))
	d.Flush()
	mustWrite(t, d, put{1, marked(2)}, put{2, marked(3)})
	if !bytes.Equal(d.Image(), slices.Concat(make([]byte, 64), marked(1), make([]byte, 64))) {
		t.Error("Image is not what was flushed")
	}
}

// P2.4

// withRoom: bytes with spare room behind them, and all of that memory.
func withRoom(b []byte) ([]byte, []byte) {
	memory := append(slices.Clone(b), bytes.Repeat([]byte{77}, 200)...)
	return memory[:len(b)], memory
}

func TestHandedInIsNeitherChangedNorKept(t *testing.T) {
	for _, size := range []int{0, 1, 64, 100, 192, 300} {
		image, memory := withRoom(bytes.Repeat([]byte{8}, size))
		was := slices.Clone(memory)
		want := make([]byte, 192)
		copy(want, image)
		d := mustLoad(t, image, 3)
		sector, room := withRoom(marked(1))
		roomWas := slices.Clone(room)
		mustWrite(t, d, put{0, sector}, put{2, sector})
		d.Crash(1, 0)
		copy(want, marked(1))
		if !bytes.Equal(memory, was) || !bytes.Equal(room, roomWas) {
			t.Error("what was handed in was changed")
		}

		clear(memory)
		checkLasts(t, "an image that changed", d, want)
		mustWrite(t, d, put{2, sector})
		clear(room)
		copy(want[128:], marked(1))
		checkRead(t, "bytes that changed", d, want)
		d.Flush()
		checkLasts(t, "bytes that changed, flushed", d, want)
	}
}

// spoil: fills bytes, and the spare room behind them.
func spoil(b []byte) {
	b = b[:cap(b)]
	for i := range b {
		b[i] = 99
	}
}

func TestAnswersAreNew(t *testing.T) {
	d := mustNew(t, 2)
	mustWrite(t, d, put{0, marked(1)})
	d.Flush()
	mustWrite(t, d, put{1, marked(2)})

	lasting, cached, image := readOf(t, d, 0), readOf(t, d, 1), d.Image()
	spoil(readOf(t, d, 0))
	spoil(readOf(t, d, 1))
	spoil(d.Image())
	if !bytes.Equal(lasting, marked(1)) || !bytes.Equal(cached, marked(2)) || !bytes.Equal(image, slices.Concat(marked(1), make([]byte, 64))) {
		t.Error("two answers share memory")
	}
	spoil(lasting)
	spoil(cached)
	spoil(image)
	checkRead(t, "spoilt answers", d, slices.Concat(marked(1), marked(2)))
	d.Flush()
	checkLasts(t, "spoilt answers, flushed", d, slices.Concat(marked(1), marked(2)))

	held, answered := d.Image(), readOf(t, d, 0)
	mustWrite(t, d, put{0, marked(3)})
	d.Flush()
	if !bytes.Equal(held, slices.Concat(marked(1), marked(2))) || !bytes.Equal(answered, marked(1)) {
		t.Error("an answer changes with the disk")
	}
}

func readOf(t *testing.T, d *disk.Disk, sector int) []byte {
	t.Helper()
	b, e := d.Read(sector)
	if e != api.OK {
		t.Fatalf("Read(%d): %d", sector, e)
	}
	return b
}

func TestDisksAreApart(t *testing.T) {
	image := slices.Concat(marked(1), marked(2))
	one, other := mustLoad(t, image, 2), mustLoad(t, image, 2)
	mustWrite(t, one, put{0, marked(3)})
	checkLasts(t, "the other disk", other, image)
	one.Flush()
	checkLasts(t, "the other disk, flushed", other, image)
	mustWrite(t, other, put{1, marked(4)})
	one.Crash(0, 0)
	if other.Pending() != 1 {
		t.Error("a crash of one disk is one of the other")
	}
	checkLasts(t, "the one disk", one, slices.Concat(marked(3), marked(2)))
}

// P1: all calls end, and none panics, whatever follows on whatever; the disk is as it is told all along.

// told is a disk as the chapter tells it: what lasts, and what was written since.
type told struct {
	image []byte
	puts  []put
}

func (m *told) crash(keep, torn int) {
	m.image = crashed(m.image, m.puts, keep, torn)
	m.puts = nil
}

func FuzzDisk(f *testing.F) {
	f.Add([]byte{}, 1, 0, 0)
	f.Add([]byte{0, 8, 16, 24, 5, 0, 6}, 4, 1, 2)
	f.Add([]byte{0, 0, 0, 4, 0, 0, 5, 8, 6}, 2, -1, 65)
	f.Add([]byte{1, 9, 2, 10, 3, 11, 6, 0, 8}, 70000, math.MaxInt, math.MinInt)
	f.Add([]byte{0, 8, 0, 8, 0, 8, 6, 7, 0, 6}, 3, math.MinInt, math.MaxInt)
	f.Fuzz(func(t *testing.T, calls []byte, sectors, keep, torn int) {
		if sectors > 8 && sectors <= 65536 {
			sectors = 8
		}
		d, e := disk.Load(calls, sectors)
		if sectors < 1 || sectors > 65536 {
			if d != nil || e != api.ErrRange {
				t.Fatalf("Load: %v, %d", d, e)
			}
			return
		}
		m := &told{image: make([]byte, sectors*64)}
		copy(m.image, calls)
		for i, call := range calls {
			follow(t, d, m, call, i, keep, torn)
		}
	})
}

// follow: does a call on a disk, and on what is told, and holds them against each other.
func follow(t *testing.T, d *disk.Disk, m *told, call byte, mark, keep, torn int) {
	t.Helper()
	sector := int(call>>3)%(d.Size()+2) - 1
	b := marked(mark)
	switch call % 8 {
	case 0, 1, 2, 3:
		want := api.OK
		if sector < 0 || sector >= d.Size() {
			want = api.ErrSector
		} else {
			m.puts = append(m.puts, put{sector, b})
		}
		if e := d.Write(sector, b); e != want {
			t.Fatalf("Write(%d): %d, not %d", sector, e, want)
		}
	case 4:
		if e := d.Write(0, b[:mark%64]); e != api.ErrRange {
			t.Fatalf("Write of %d bytes: %d", mark%64, e)
		}
	case 5:
		d.Flush()
		m.crash(len(m.puts), 0)
	case 6:
		d.Crash(keep, torn)
		m.crash(keep, torn)
	case 7:
		d.Crash(sector, mark%66)
		m.crash(sector, mark%66)
	}
	if d.Pending() != len(m.puts) {
		t.Fatalf("Pending %d, not %d", d.Pending(), len(m.puts))
	}
	if !bytes.Equal(d.Image(), m.image) {
		t.Fatalf("Image %v, not %v", d.Image(), m.image)
	}
	checkRead(t, "all along", d, crashed(m.image, m.puts, len(m.puts), 0))
}
