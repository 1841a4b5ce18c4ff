package wal_test

import (
	"bytes"
	"encoding/binary"
	"math"
	"math/rand"
	"slices"
	"testing"

	"interlock/api"
	"interlock/disk"
	"interlock/wal"
)

const (
	bound = 1 << 31   // no number of this or more is a stamp
	most  = 1<<32 - 1 // that 4 bytes hold
)

// stamped: a sector with a number at both its ends and these bytes between them.
func stamped(n int, between []byte) []byte {
	b := make([]byte, 64)
	binary.LittleEndian.PutUint32(b, uint32(n))
	copy(b[4:60], between)
	binary.LittleEndian.PutUint32(b[60:], uint32(n))
	return b
}

// begun: a sector that begins with a number, and ends with another one.
func begun(n int) []byte {
	b := stamped(n, nil)
	b[60] ^= 1
	return b
}

func headSector(generation, area, first int) []byte {
	return stamped(generation, binary.LittleEndian.AppendUint32([]byte{byte(area)}, uint32(first)))
}

// recordSectors: a record's sectors, one behind the other, from this stamp on.
func recordSectors(first int, record []byte) []byte {
	body := append(binary.LittleEndian.AppendUint16(nil, uint16(len(record))), record...)
	var b []byte
	for at := 0; at < len(body); at += 56 {
		b = append(b, stamped(first, body[at:min(at+56, len(body))])...)
		first++
	}
	return b
}

// text: a record of so many bytes, none of which is nought.
func text(size, mark int) []byte {
	b := make([]byte, size)
	for i := range b {
		b[i] = byte((mark*31+i)%255 + 1)
	}
	return b
}

// told is what a disk's bytes tell by the chapter.
type told struct {
	there                         bool
	generation, area, first, next int
	used, room                    int
	records                       [][]byte
}

func low(b []byte) int { return int(binary.LittleEndian.Uint32(b)) }

// tellHead: the head that counts, asked of the bytes one by one.
func tellHead(image []byte, m *told) {
	for sector := range 2 {
		b := image[sector*64 : sector*64+64]
		generation := low(b)
		isHead := generation >= 1 && generation < bound && generation == low(b[60:]) && generation%2 == sector
		isHead = isHead && (b[4] == 0 || b[4] == 1) && low(b[5:9]) >= 1
		for _, c := range b[9:60] {
			isHead = isHead && c == 0
		}
		if isHead && generation > m.generation {
			*m = told{there: true, generation: generation, area: int(b[4]), first: low(b[5:9])}
		}
	}
}

// tell: what a disk of such bytes has.
func tell(image []byte) told {
	m := told{}
	tellHead(image, &m)
	half := (len(image)/64 - 2) / 2
	for sector := 2; sector < 2+2*half; sector++ {
		m.next = max(m.next, low(image[sector*64:]))
	}
	m.next = max(m.next+1, m.first)
	if !m.there {
		return m
	}
	area := image[(2+m.area*half)*64:][:half*64]
	least := m.first
	for len(area) > 0 {
		size := int(area[4]) + 256*int(area[5])
		sectors := (2 + size + 55) / 56
		if size > 4096 || sectors*64 > len(area) || low(area) < least {
			break
		}
		var body []byte
		whole := true
		for i := range sectors {
			b := area[i*64 : i*64+64]
			n := low(area) + i
			whole = whole && n < bound && low(b) == n && low(b[60:]) == n
			body = append(body, b[4:60]...)
		}
		if !whole {
			break
		}
		m.records = append(m.records, body[2:2+size])
		m.used += sectors
		least = low(area) + sectors
		area = area[sectors*64:]
	}
	m.room = half - m.used
	return m
}

func newDisk(t *testing.T, sectors int) *disk.Disk {
	t.Helper()
	return load(t, make([]byte, sectors*64))
}

func load(t *testing.T, image []byte) *disk.Disk {
	t.Helper()
	d, e := disk.Load(image, len(image)/64)
	if e != api.OK {
		t.Fatalf("Load of %d bytes: %d", len(image), e)
	}
	return d
}

// with: bytes of a disk with sectors in their places.
func with(sectors int, at map[int][]byte) []byte {
	image := make([]byte, sectors*64)
	for sector, b := range at {
		copy(image[sector*64:], b)
	}
	return image
}

// now: all that is read of a disk.
func now(t *testing.T, d *disk.Disk) []byte {
	t.Helper()
	var image []byte
	for sector := range d.Size() {
		b, e := d.Read(sector)
		if e != api.OK {
			t.Fatalf("Read(%d): %d", sector, e)
		}
		image = append(image, b...)
	}
	return image
}

func mustFormat(t *testing.T, d *disk.Disk) *wal.Log {
	t.Helper()
	l, e := wal.Format(d)
	if l == nil || e != api.OK {
		t.Fatalf("Format: %v, %d", l, e)
	}
	return l
}

func mustOpen(t *testing.T, d *disk.Disk) (*wal.Log, [][]byte) {
	t.Helper()
	l, records, e := wal.Open(d)
	if l == nil || e != api.OK {
		t.Fatalf("Open: %v, %d", l, e)
	}
	return l, records
}

func mustAppend(t *testing.T, l *wal.Log, records ...[]byte) {
	t.Helper()
	for _, record := range records {
		if e := l.Append(record); e != api.OK {
			t.Fatalf("Append of %d bytes: %d", len(record), e)
		}
	}
}

func mustSwitch(t *testing.T, l *wal.Log, records ...[]byte) {
	t.Helper()
	if e := l.Switch(records); e != api.OK {
		t.Fatalf("Switch of %d records: %d", len(records), e)
	}
}

func same(a, b [][]byte) bool { return slices.EqualFunc(a, b, bytes.Equal) }

// checkOpens: a log is opened that has these records; neither the disk nor what lasts is changed by it.
func checkOpens(t *testing.T, what string, d *disk.Disk, want ...[]byte) *wal.Log {
	t.Helper()
	image, lasts, pending := now(t, d), d.Image(), d.Pending()
	l, records := mustOpen(t, d)
	if !same(records, want) {
		t.Fatalf("%s: the records are %v, not %v", what, records, want)
	}
	if m := tell(image); l.Room() != m.room || !same(m.records, want) {
		t.Fatalf("%s: Room %d of %+v", what, l.Room(), m)
	}
	if !bytes.Equal(now(t, d), image) || !bytes.Equal(d.Image(), lasts) || d.Pending() != pending {
		t.Fatalf("%s: Open changes the disk", what)
	}
	return l
}

// checkAsTold: a disk's bytes are opened as they tell.
func checkAsTold(t *testing.T, what string, image []byte) {
	t.Helper()
	m := tell(image)
	d := load(t, image)
	if m.there {
		checkOpens(t, what, d, m.records...)
		return
	}
	if l, records, e := wal.Open(d); l != nil || len(records) != 0 || e != api.ErrCorrupt {
		t.Errorf("%s: Open: %v, %v, %d", what, l, records, e)
	}
	if !bytes.Equal(d.Image(), image) || d.Pending() != 0 {
		t.Errorf("%s: Open changes the disk", what)
	}
}

// checkUntouched: what a disk has, and what lasts, is this, and nothing is to be flushed.
func checkUntouched(t *testing.T, what string, d *disk.Disk, want []byte) {
	t.Helper()
	if d.Pending() != 0 || !bytes.Equal(d.Image(), want) || !bytes.Equal(now(t, d), want) {
		t.Errorf("%s: the disk isn't as it should be", what)
	}
}

// P3.1

func TestFormatBytes(t *testing.T) {
	d := newDisk(t, 22)
	l := mustFormat(t, d)
	checkUntouched(t, "a new log", d, with(22, map[int][]byte{1: headSector(1, 0, 1)}))
	if l.Room() != 10 {
		t.Errorf("Room %d", l.Room())
	}
	checkOpens(t, "a new log", d)
}

func TestFormatSizes(t *testing.T) {
	for sectors := 1; sectors < 10; sectors++ {
		d := newDisk(t, sectors)
		if l, e := wal.Format(d); l != nil || e != api.ErrRange {
			t.Errorf("Format of %d sectors: %v, %d", sectors, l, e)
		}
		checkUntouched(t, "a disk too small", d, make([]byte, sectors*64))
	}
	for sectors, room := range map[int]int{10: 4, 11: 4, 12: 5, 13: 5, 22: 10, 1001: 499, 65535: 32766, 65536: 32767} {
		d := newDisk(t, sectors)
		if l := mustFormat(t, d); l.Room() != room {
			t.Errorf("Room of %d sectors: %d", sectors, l.Room())
		}
		checkUntouched(t, "a new log", d, with(sectors, map[int][]byte{1: headSector(1, 0, 1)}))
	}
}

// A number counts wherever its sector stands, stamped by it or not; the last one of 13 sectors is in no area.
func TestFormatNumbers(t *testing.T) {
	for sector := range 13 {
		for _, n := range []int{1, 2, 255, 256, 0x01020304, bound - 3, bound - 2} {
			for _, b := range [][]byte{stamped(n, nil), begun(n)} {
				image := with(13, map[int][]byte{sector: b})
				generation, first := 1, 1
				if sector < 2 {
					generation = n + 1
				} else if sector < 12 {
					first = n + 1
				}
				want := slices.Clone(image)
				copy(want[generation%2*64:], headSector(generation, 0, first))
				d := load(t, image)
				if l := mustFormat(t, d); l.Room() != 5 {
					t.Errorf("Room %d", l.Room())
				}
				checkUntouched(t, "formatted", d, want)
				checkOpens(t, "formatted", d)
			}
		}
	}
}

func TestFormatGreatestNumbers(t *testing.T) {
	image := with(12, map[int][]byte{0: begun(8), 1: begun(11), 2: begun(5), 6: begun(3), 7: begun(9), 11: begun(4)})
	d := load(t, image)
	mustFormat(t, d)
	copy(image, headSector(12, 0, 10))
	checkUntouched(t, "formatted", d, image)
}

func TestFormatFull(t *testing.T) {
	for sector := range 13 {
		for _, n := range []int{bound - 1, bound, bound + 1, most} {
			image := with(13, map[int][]byte{sector: begun(n)})
			d := load(t, image)
			l, e := wal.Format(d)
			if sector == 12 {
				if l == nil || e != api.OK {
					t.Errorf("Format with %d behind the areas: %d", n, e)
				}
				continue
			}
			if l != nil || e != api.ErrFull {
				t.Errorf("Format with %d in %d: %v, %d", n, sector, l, e)
			}
			checkUntouched(t, "a full disk", d, image)
		}
	}
}

// A disk that is too small is told so, whatever it has.
func TestFormatSmallAndFull(t *testing.T) {
	d := load(t, bytes.Repeat([]byte{255}, 9*64))
	if l, e := wal.Format(d); l != nil || e != api.ErrRange {
		t.Errorf("Format: %v, %d", l, e)
	}
}

func TestFormatWithoutHead(t *testing.T) {
	for _, first := range []int{7, bound - 1, bound, most} {
		d := load(t, with(10, map[int][]byte{1: headSector(1, 1, first)}))
		mustFormat(t, d)
		checkUntouched(t, "formatted", d, with(10, map[int][]byte{0: headSector(2, 0, 1), 1: headSector(1, 1, first)}))
	}
}

func TestFormatFlushes(t *testing.T) {
	d := newDisk(t, 12)
	mustAppend(t, mustFormat(t, d), text(3, 1), text(60, 2))
	l := mustFormat(t, d)
	if d.Pending() != 0 {
		t.Errorf("Pending %d", d.Pending())
	}
	d.Crash(0, 0)
	checkOpens(t, "formatted again", d)
	mustAppend(t, l, text(5, 3))
	checkOpens(t, "formatted again, a record", d, text(5, 3))
	if b, _ := d.Read(2); !bytes.Equal(b, recordSectors(4, text(5, 3))) {
		t.Errorf("the record's sector is %v", b)
	}
}

// P3.2

func TestOpenSmall(t *testing.T) {
	for sectors := 1; sectors < 10; sectors++ {
		for _, b := range [][]byte{nil, headSector(1, 0, 1)} {
			image := make([]byte, sectors*64)
			copy(image[(sectors-1)/2*64:], b)
			if l, records, e := wal.Open(load(t, image)); l != nil || len(records) != 0 || e != api.ErrRange {
				t.Errorf("Open of %d sectors: %v, %v, %d", sectors, l, records, e)
			}
		}
	}
}

func TestOpenHeads(t *testing.T) {
	for _, c := range []struct {
		sector int
		b      []byte
		head   bool
	}{
		{1, headSector(1, 0, 1), true},
		{1, headSector(1, 1, 1), true},
		{1, headSector(3, 0, 300), true},
		{0, headSector(2, 0, 1), true},
		{0, headSector(bound-2, 1, bound-1), true},
		{1, headSector(bound-1, 0, 1), true},
		{1, headSector(1, 0, bound), true},
		{1, headSector(1, 0, most), true},
		{0, headSector(0, 0, 1), false},
		{0, headSector(1, 0, 1), false},
		{1, headSector(2, 0, 1), false},
		{2, headSector(2, 0, 1), false},
		{0, headSector(bound, 0, 1), false},
		{1, headSector(bound+1, 0, 1), false},
		{1, headSector(most, 0, 1), false},
		{1, headSector(1, 2, 1), false},
		{1, headSector(1, 255, 1), false},
		{1, headSector(1, 0, 0), false},
		{1, begun(1), false},
		{1, make([]byte, 64), false},
	} {
		image := with(10, map[int][]byte{c.sector: c.b})
		if tell(image).there != c.head {
			t.Errorf("%v in %d is told otherwise", c.b, c.sector)
		}
		checkAsTold(t, "a head", image)
	}
}

// No byte of a head is without a meaning.
func TestOpenHeadBytes(t *testing.T) {
	whole := with(10, map[int][]byte{1: headSector(1, 0, 1), 2: recordSectors(1, text(2, 1)), 6: recordSectors(1, text(2, 2))})
	for at := range 64 {
		for _, c := range []byte{0, 1, 2, 3, 128, 255} {
			image := slices.Clone(whole)
			image[64+at] = c
			checkAsTold(t, "a head with a byte", image)
		}
	}
}

func TestOpenGreatestHead(t *testing.T) {
	for _, c := range []struct {
		even, odd []byte
		area      int
	}{
		{headSector(2, 0, 1), headSector(1, 1, 1), 0},
		{headSector(2, 0, 1), headSector(3, 1, 1), 1},
		{headSector(256, 0, 1), headSector(3, 1, 1), 0},
		{headSector(256, 1, 1), headSector(257, 0, 1), 0},
		{headSector(bound-2, 1, 1), headSector(bound-1, 0, 1), 0},
		{headSector(bound-2, 1, 1), headSector(bound-3, 0, 1), 1},
		{headSector(2, 0, 1), headSector(3, 2, 1), 0},
		{headSector(4, 2, 1), headSector(3, 1, 1), 1},
		{begun(4), headSector(3, 1, 1), 1},
		{headSector(2, 0, 1), begun(3), 0},
	} {
		image := with(10, map[int][]byte{0: c.even, 1: c.odd, 2: recordSectors(1, text(2, 0)), 6: recordSectors(1, text(2, 1))})
		checkOpens(t, "two heads", load(t, image), text(2, c.area))
	}
}

// areaOf: the parts stand one behind the other, from the beginning of the area 1 of 22 sectors on; the head's first stamp is 10.
func areaOf(parts ...[]byte) []byte {
	return with(22, map[int][]byte{0: headSector(2, 1, 10), 12: slices.Concat(parts...)})
}

func TestOpenRecords(t *testing.T) {
	a, b, c := text(3, 1), text(60, 2), text(54, 3)
	nothing := make([]byte, 64)
	for _, x := range []struct {
		what  string
		image []byte
		want  [][]byte
	}{
		{"none", areaOf(), nil},
		{"one", areaOf(recordSectors(10, a)), [][]byte{a}},
		{"an empty one", areaOf(recordSectors(10, nil)), [][]byte{{}}},
		{"three", areaOf(recordSectors(10, a), recordSectors(11, b), recordSectors(13, c)), [][]byte{a, b, c}},
		{"gaps between them", areaOf(recordSectors(12, a), recordSectors(400, b), recordSectors(70000, c)), [][]byte{a, b, c}},
		{"a stamp below the head's", areaOf(recordSectors(9, a), recordSectors(10, b)), nil},
		{"the same stamp", areaOf(recordSectors(10, a), recordSectors(10, a)), [][]byte{a}},
		{"a stamp in the one ahead", areaOf(recordSectors(10, b), recordSectors(11, a)), [][]byte{b}},
		{"a stamp below", areaOf(recordSectors(20, a), recordSectors(19, b)), [][]byte{a}},
		{"a gap of sectors", areaOf(recordSectors(10, a), nothing, recordSectors(12, c)), [][]byte{a}},
		{"not from the beginning", areaOf(nothing, recordSectors(11, a)), nil},
		{"a sector missing", areaOf(recordSectors(10, b)[:64]), nil},
		{"a sector missing behind one", areaOf(recordSectors(10, a), recordSectors(11, b)[:64]), [][]byte{a}},
		{"a sector of another", areaOf(recordSectors(10, b)[:64], recordSectors(12, a)), nil},
		{"its sectors in another order", areaOf(recordSectors(10, b)[64:], recordSectors(10, b)[:64]), nil},
		{"stamps that go on within it", areaOf(recordSectors(10, b)[:64], recordSectors(11, b)[64:]), nil},
		{"the last stamps", areaOf(recordSectors(bound-2, b)), [][]byte{b}},
		{"a stamp too great", areaOf(recordSectors(bound, a)), nil},
		{"a stamp too great within it", areaOf(recordSectors(bound-1, b)), nil},
		{"the greatest number", areaOf(recordSectors(most, a)), nil},
		{"begun only", areaOf(begun(10)), nil},
		{"the area full", areaOf(recordSectors(10, text(558, 4))), [][]byte{text(558, 4)}},
		{"beyond the area", areaOf(recordSectors(10, text(559, 4))), nil},
		{"beyond the area behind others", areaOf(recordSectors(10, text(446, 4)), recordSectors(18, c), recordSectors(19, b)), [][]byte{text(446, 4), c}},
	} {
		if m := tell(x.image); !same(m.records, x.want) {
			t.Errorf("%s: told are %v", x.what, m.records)
		}
		checkOpens(t, x.what, load(t, x.image), x.want...)
	}
}

// A sector that isn't stamped at both its ends ends the records ahead of its own.
func TestOpenStampsAtBothEnds(t *testing.T) {
	whole := areaOf(recordSectors(10, text(2, 1)), recordSectors(11, text(120, 2)), recordSectors(14, text(2, 3)))
	for sector := range 5 {
		var want [][]byte
		if sector > 0 {
			want = append(want, text(2, 1))
		}
		if sector > 3 {
			want = append(want, text(120, 2))
		}
		for _, at := range []int{0, 1, 2, 3, 60, 61, 62, 63} {
			image := slices.Clone(whole)
			image[(12+sector)*64+at] ^= 32
			checkOpens(t, "a byte of a stamp", load(t, image), want...)
		}
	}
}

// Records of area 0 end where area 1 begins, and those of area 1 ahead of an odd last sector.
func TestOpenAreasEnd(t *testing.T) {
	for area := range 2 {
		for sectors := range 7 {
			b := recordSectors(1, text(max(sectors*56-2, 0), 1))
			image := with(13, map[int][]byte{1: headSector(1, area, 1)})
			copy(image[(2+5*area)*64:], b)
			want := [][]byte{text(max(sectors*56-2, 0), 1)}
			if sectors == 6 {
				want = nil
			}
			checkOpens(t, "an area's end", load(t, image), want...)
		}
	}
}

func TestOpenLongest(t *testing.T) {
	for _, size := range []int{4095, 4096, 4097, 4098, 65535} {
		image := make([]byte, 3000*64)
		copy(image[64:], headSector(1, 0, 1))
		copy(image[128:], recordSectors(1, text(size, 1)))
		want := [][]byte{text(size, 1)}
		if size > 4096 {
			want = nil
		}
		checkOpens(t, "a long record", load(t, image), want...)
	}
}

func TestOpenLooksAtNothingBehindBytes(t *testing.T) {
	for _, size := range []int{0, 1, 53, 54, 55, 100, 110, 111} {
		b := recordSectors(10, text(size, 1))
		last := b[len(b)-64:]
		for i := 4 + (2+size+55)%56 + 1; i < 60; i++ {
			last[i] = 99
		}
		checkOpens(t, "behind its bytes", load(t, areaOf(b, recordSectors(50, text(2, 2)))), text(size, 1), text(2, 2))
	}
}

func TestOpenGoesOnBehind(t *testing.T) {
	image := areaOf(recordSectors(12, text(60, 1)), recordSectors(20, text(2, 2)))
	d := load(t, image)
	l := checkOpens(t, "two records", d, text(60, 1), text(2, 2))
	mustAppend(t, l, text(57, 3))
	if l.Room() != 5 || d.Pending() != 2 {
		t.Errorf("Room %d, Pending %d", l.Room(), d.Pending())
	}
	copy(image[15*64:], recordSectors(21, text(57, 3)))
	if !bytes.Equal(now(t, d), image) {
		t.Error("the record doesn't stand behind them")
	}
	checkOpens(t, "three records", d, text(60, 1), text(2, 2), text(57, 3))
}

// P3.3

func TestAppendBytes(t *testing.T) {
	for _, size := range []int{0, 1, 2, 53, 54, 55, 56, 109, 110, 111, 255, 256, 257, 4000, 4094, 4095, 4096} {
		d := newDisk(t, 202)
		l := mustFormat(t, d)
		mustAppend(t, l, text(3, 1))
		b := recordSectors(2, text(size, 2))
		mustAppend(t, l, text(size, 2))
		want := with(202, map[int][]byte{1: headSector(1, 0, 1), 2: recordSectors(1, text(3, 1)), 3: b})
		if !bytes.Equal(now(t, d), want) {
			t.Errorf("a record of %d bytes has other sectors", size)
		}
		sectors := len(b) / 64
		if l.Room() != 99-sectors || d.Pending() != 1+sectors {
			t.Errorf("%d bytes: Room %d, Pending %d", size, l.Room(), d.Pending())
		}
		checkOpens(t, "appended", d, text(3, 1), text(size, 2))
	}
}

// The sectors are written from the first one on: a crash that keeps so many keeps those.
func TestAppendOrder(t *testing.T) {
	for keep := range 6 {
		d := newDisk(t, 22)
		l := mustFormat(t, d)
		mustAppend(t, l, text(100, 1), text(150, 2))
		d.Crash(keep, 0)
		b := slices.Concat(recordSectors(1, text(100, 1)), recordSectors(3, text(150, 2)))
		checkUntouched(t, "the first so many", d, with(22, map[int][]byte{1: headSector(1, 0, 1), 2: b[:keep*64]}))
	}
}

func TestAppendWrong(t *testing.T) {
	d := newDisk(t, 10)
	l := mustFormat(t, d)
	check := func(size, room int, want api.Errno) {
		t.Helper()
		image, pending := now(t, d), d.Pending()
		if e := l.Append(text(size, 1)); e != want || l.Room() != room {
			t.Errorf("Append of %d bytes: %d, Room %d", size, e, l.Room())
		}
		if want != api.OK && (!bytes.Equal(now(t, d), image) || d.Pending() != pending) {
			t.Errorf("Append of %d bytes changes the disk", size)
		}
	}
	check(223, 4, api.ErrFull)
	check(4096, 4, api.ErrFull)
	check(4097, 4, api.ErrRange)
	check(70000, 4, api.ErrRange)
	check(110, 2, api.OK)
	check(111, 2, api.ErrFull)
	check(54, 1, api.OK)
	check(55, 1, api.ErrFull)
	check(54, 0, api.OK)
	check(0, 0, api.ErrFull)
	check(4097, 0, api.ErrRange)
	checkOpens(t, "a full area", d, text(110, 1), text(54, 1), text(54, 1))
}

// The next stamp is 1 more than the greatest number in any sector of both areas, and at least the head's first one.
func TestAppendNextStamp(t *testing.T) {
	for sector := range 13 {
		for _, n := range []int{3, 6, 7, 8, 1000, bound - 2, bound - 1, bound, most} {
			if sector < 2 {
				continue
			}
			image := with(13, map[int][]byte{1: headSector(1, 0, 7), sector: begun(n)})
			next := 7
			if sector < 12 {
				next = max(7, n+1)
			}
			d := load(t, image)
			l, _ := mustOpen(t, d)
			if next >= bound {
				if e := l.Append(nil); e != api.ErrFull || d.Pending() != 0 {
					t.Errorf("Append with %d in %d: %d, Pending %d", n, sector, e, d.Pending())
				}
				continue
			}
			mustAppend(t, l, text(3, 1))
			if b, _ := d.Read(2); !bytes.Equal(b, recordSectors(next, text(3, 1))) {
				t.Errorf("with %d in %d the stamp is %d", n, sector, low(b))
			}
		}
	}
}

func TestAppendLastStamps(t *testing.T) {
	for _, first := range []int{bound - 2, bound - 1, bound, most} {
		d := load(t, with(22, map[int][]byte{1: headSector(1, 0, first)}))
		l := checkOpens(t, "the last stamps", d)
		for mark, size := range []int{111, 110, 55, 54, 0} {
			image := now(t, d)
			e := l.Append(text(size, mark))
			need := (size + 57) / 56
			if first+need <= bound {
				first += need
				if e != api.OK {
					t.Errorf("Append of %d bytes up to %d: %d", size, first, e)
				}
			} else if e != api.ErrFull || !bytes.Equal(now(t, d), image) {
				t.Errorf("Append of %d bytes from %d on: %d", size, first, e)
			}
		}
		if l.Append(make([]byte, 4097)) != api.ErrRange {
			t.Error("ErrFull ahead of ErrRange")
		}
	}
}

// A stamp that was written is never written again, whatever stands there later.
func TestAppendStampsGoOn(t *testing.T) {
	d := newDisk(t, 22)
	l := mustFormat(t, d)
	mustAppend(t, l, text(2, 1), text(60, 2))
	mustSwitch(t, l, text(2, 3))
	mustAppend(t, l, text(2, 4))
	mustSwitch(t, l)
	mustAppend(t, l, text(2, 5))
	b, _ := d.Read(2)
	if !bytes.Equal(b, recordSectors(6, text(2, 5))) {
		t.Errorf("the sector is %v", b)
	}
}

func TestFlush(t *testing.T) {
	d := newDisk(t, 22)
	l := mustFormat(t, d)
	mustAppend(t, l, []byte("ab"))
	d.Crash(0, 0)
	l = checkOpens(t, "a crash that keeps nothing", d)
	mustAppend(t, l, []byte("ab"))
	l.Flush()
	if d.Pending() != 0 {
		t.Errorf("Pending %d", d.Pending())
	}
	d.Crash(0, 0)
	checkOpens(t, "a flush ahead", d, []byte("ab"))
}

// P3.4

func TestSwitchBytes(t *testing.T) {
	d := newDisk(t, 23)
	l := mustFormat(t, d)
	mustAppend(t, l, text(60, 1))
	want := with(23, map[int][]byte{1: headSector(1, 0, 1), 2: recordSectors(1, text(60, 1))})

	mustSwitch(t, l, text(111, 2), nil)
	copy(want, headSector(2, 1, 3))
	copy(want[12*64:], slices.Concat(recordSectors(3, text(111, 2)), recordSectors(6, nil)))
	checkUntouched(t, "switched", d, want)
	if l.Room() != 6 {
		t.Errorf("Room %d", l.Room())
	}
	checkOpens(t, "switched", d, text(111, 2), nil)

	mustAppend(t, l, text(2, 3))
	l.Flush()
	copy(want[16*64:], recordSectors(7, text(2, 3)))
	checkUntouched(t, "switched, and a record", d, want)
	checkOpens(t, "switched, and a record", d, text(111, 2), nil, text(2, 3))

	mustSwitch(t, l, text(2, 4))
	copy(want[64:], headSector(3, 0, 8))
	copy(want[128:], recordSectors(8, text(2, 4)))
	checkUntouched(t, "switched back", d, want)
	checkOpens(t, "switched back", d, text(2, 4))

	mustSwitch(t, l)
	copy(want, headSector(4, 1, 9))
	checkUntouched(t, "switched to none", d, want)
	l = checkOpens(t, "switched to none", d)
	if l.Room() != 10 {
		t.Errorf("Room %d", l.Room())
	}
}

// What isn't flushed when the log is switched lasts then, and is no record any more.
func TestSwitchFlushes(t *testing.T) {
	for _, list := range [][][]byte{nil, {text(2, 5)}} {
		d := newDisk(t, 12)
		l := mustFormat(t, d)
		mustAppend(t, l, text(60, 1))
		mustSwitch(t, l, list...)
		if d.Pending() != 0 {
			t.Errorf("Pending %d", d.Pending())
		}
		d.Crash(0, 0)
		checkOpens(t, "switched", d, list...)
	}
}

func TestSwitchWrong(t *testing.T) {
	long, empty := make([]byte, 4097), []byte{}
	for _, c := range []struct {
		what    string
		records [][]byte
		want    api.Errno
	}{
		{"a long one", [][]byte{long}, api.ErrRange},
		{"a long one last", [][]byte{empty, text(54, 1), long}, api.ErrRange},
		{"too many, and a long one", [][]byte{empty, empty, empty, empty, empty, empty, long}, api.ErrRange},
		{"too many", [][]byte{empty, empty, empty, empty, empty}, api.ErrFull},
		{"one too great", [][]byte{text(223, 1)}, api.ErrFull},
		{"the longest", [][]byte{text(4096, 1)}, api.ErrFull},
		{"too great together", [][]byte{text(55, 1), text(55, 1), empty}, api.ErrFull},
	} {
		d := newDisk(t, 10)
		l := mustFormat(t, d)
		mustAppend(t, l, text(2, 1))
		image, lasts := now(t, d), d.Image()
		if e := l.Switch(c.records); e != c.want {
			t.Errorf("%s: %d", c.what, e)
		}
		if l.Room() != 3 || d.Pending() != 1 || !bytes.Equal(now(t, d), image) || !bytes.Equal(d.Image(), lasts) {
			t.Errorf("%s: something was written", c.what)
		}
		mustAppend(t, l, text(2, 2))
		checkOpens(t, c.what, d, text(2, 1), text(2, 2))
	}
}

// The room of the log's own area is nothing to a switch.
func TestSwitchFillsTheOther(t *testing.T) {
	d := newDisk(t, 10)
	l := mustFormat(t, d)
	mustAppend(t, l, text(200, 1))
	for i := range 5 {
		mustSwitch(t, l, text(54, i), nil, text(110, i))
		if l.Room() != 0 || l.Append(nil) != api.ErrFull {
			t.Errorf("Room %d", l.Room())
		}
		l = checkOpens(t, "a full area", d, text(54, i), nil, text(110, i))
	}
}

func TestSwitchLastGenerations(t *testing.T) {
	for _, generation := range []int{bound - 3, bound - 2, bound - 1} {
		image := with(10, map[int][]byte{generation % 2: headSector(generation, 0, 1), 2: recordSectors(1, text(2, 1))})
		d := load(t, image)
		l := checkOpens(t, "the last generations", d, text(2, 1))
		for range bound - 1 - generation {
			mustSwitch(t, l, text(2, 2))
			checkOpens(t, "the last generations", d, text(2, 2))
		}
		image = d.Image()
		if l.Switch(nil) != api.ErrFull || l.Switch([][]byte{nil}) != api.ErrFull || l.Switch([][]byte{make([]byte, 4097)}) != api.ErrRange {
			t.Error("there is no generation behind the last one")
		}
		checkUntouched(t, "no generation", d, image)
		mustAppend(t, l, text(2, 3))
	}
}

func TestSwitchLastStamps(t *testing.T) {
	image := with(22, map[int][]byte{1: headSector(1, 0, bound-2), 2: recordSectors(bound-2, text(2, 1))})
	d := load(t, image)
	l := checkOpens(t, "the last stamps", d, text(2, 1))
	if l.Switch([][]byte{nil, nil}) != api.ErrFull || l.Switch([][]byte{text(55, 1)}) != api.ErrFull {
		t.Error("Switch with no stamps")
	}
	checkUntouched(t, "no stamps", d, image)
	mustSwitch(t, l, text(54, 2))
	checkOpens(t, "the last stamp", d, text(54, 2))
	if l.Append(nil) != api.ErrFull || l.Switch([][]byte{nil}) != api.ErrFull {
		t.Error("there is no stamp behind the last one")
	}

	// Without records no stamp is needed, and the head's first one needn't be one.
	mustSwitch(t, l)
	copy(image, headSector(2, 1, bound-1))
	copy(image[12*64:], recordSectors(bound-1, text(54, 2)))
	copy(image[64:], headSector(3, 0, bound))
	checkUntouched(t, "switched to none", d, image)
	if l = checkOpens(t, "switched to none", d); l.Append(nil) != api.ErrFull {
		t.Error("there is no stamp behind the last one")
	}
}

// A number that is no stamp may be as great as its bytes allow: to none the log is switched all the same.
func TestSwitchBeyondStamps(t *testing.T) {
	for _, n := range []int{bound - 1, bound, most - 1, most} {
		image := with(10, map[int][]byte{1: headSector(1, 0, 1), 2: recordSectors(1, text(2, 1)), 9: begun(n)})
		d := load(t, image)
		l := checkOpens(t, "beyond stamps", d, text(2, 1))
		if l.Switch([][]byte{nil}) != api.ErrFull {
			t.Error("there is no stamp behind the last one")
		}
		checkUntouched(t, "no stamps", d, image)
		mustSwitch(t, l)
		copy(image, headSector(2, 1, min(n+1, most)))
		checkUntouched(t, "switched to none", d, image)
		if l = checkOpens(t, "switched to none", d); l.Append(nil) != api.ErrFull {
			t.Error("there is no stamp behind the last one")
		}
	}
}

// P3.5

// kept: how many of these records have all their sectors among the first so many.
func kept(records [][]byte, sectors int) int {
	for i, record := range records {
		sectors -= (len(record) + 57) / 56
		if sectors < 0 {
			return i
		}
	}
	return len(records)
}

func torns() []int { return []int{0, 1, 2, 3, 4, 5, 6, 30, 59, 60, 61, 62, 63, 64} }

// checkCrashed: of the records that weren't flushed the first so many are told, those that were kept whole among them; answers all that are.
func checkCrashed(t *testing.T, d *disk.Disk, flushed, others [][]byte, keep int) (*wal.Log, [][]byte) {
	t.Helper()
	l, records := mustOpen(t, d)
	n := len(records) - len(flushed)
	if n < kept(others, keep) || n > kept(others, keep+1) || !same(records, slices.Concat(flushed, others[:n])) {
		t.Fatalf("%d kept, %d flushed, %d others: %d are told", keep, len(flushed), len(others), len(records))
	}
	return l, records
}

// All crashes behind some records, and again behind some that were appended when the log was opened.
func TestCrashes(t *testing.T) {
	flushed := [][]byte{text(5, 1), text(60, 2)}
	others := [][]byte{text(130, 3), text(1, 4), text(56, 5)}
	again := [][]byte{text(2, 6), text(57, 7), text(120, 8)}
	for keep := range 8 {
		for _, torn := range torns() {
			d := newDisk(t, 40)
			l := mustFormat(t, d)
			mustAppend(t, l, flushed...)
			l.Flush()
			mustAppend(t, l, others...)
			d.Crash(keep, torn)
			_, first := checkCrashed(t, d, flushed, others, keep)
			image := d.Image()
			for keepAgain := range 8 {
				for _, tornAgain := range torns() {
					d := load(t, image)
					l := checkOpens(t, "behind a crash", d, first...)
					mustAppend(t, l, again...)
					d.Crash(keepAgain, tornAgain)
					checkCrashed(t, d, first, again, keepAgain)
				}
			}
		}
	}
}

// What a crash cut off doesn't come back, when other records stand ahead of it.
func TestCrashedRecordsStayAway(t *testing.T) {
	for keep := range 5 {
		for size := range 200 {
			d := newDisk(t, 22)
			l := mustFormat(t, d)
			mustAppend(t, l, text(2, 1), text(300, 2))
			d.Crash(1+keep, 0)
			l = checkOpens(t, "cut off", d, text(2, 1))
			mustAppend(t, l, text(size, 3))
			checkOpens(t, "cut off, and a record", d, text(2, 1), text(size, 3))
		}
	}
}

// Records that a switch left behind don't come back when the area is the log's again.
func TestSwitchedRecordsStayAway(t *testing.T) {
	for first := range 5 {
		d := newDisk(t, 22)
		l := mustFormat(t, d)
		for i := range 10 {
			mustAppend(t, l, text(2, i))
		}
		mustSwitch(t, l, text(2, 20))
		want := make([][]byte, first)
		for i := range want {
			want[i] = text(3, i)
		}
		mustSwitch(t, l, want...)
		checkOpens(t, "switched twice", d, want...)
		mustAppend(t, l, text(60, 1))
		d.Crash(1, 0)
		checkOpens(t, "switched twice, and half a record", d, want...)
	}
}

// writeAll: writes sectors, one behind the other.
func writeAll(t *testing.T, d *disk.Disk, sector int, b []byte) {
	t.Helper()
	for at := 0; at < len(b); at += 64 {
		if e := d.Write(sector+at/64, b[at:at+64]); e != api.OK {
			t.Fatalf("Write(%d): %d", sector+at/64, e)
		}
	}
}

// switches: a log of two records, one of them flushed, in an area, and those that it is switched to.
func switches(t *testing.T, area int) (*disk.Disk, *wal.Log, [][]byte, [][]byte) {
	t.Helper()
	d := newDisk(t, 22)
	l := mustFormat(t, d)
	mustAppend(t, l, text(70, 1), text(300, 2))
	for i := range area {
		mustSwitch(t, l, text(100, i))
	}
	mustSwitch(t, l, text(2, 3))
	mustAppend(t, l, text(100, 4))
	return d, l, [][]byte{text(2, 3), text(100, 4)}, [][]byte{text(56, 5), nil, text(3, 6)}
}

// A crash at any place within a switch leaves those that were there, or those that the log was switched to.
func TestCrashWithinSwitch(t *testing.T) {
	for rounds := range 4 {
		d, l, were, are := switches(t, rounds)
		before, pending := d.Image(), now(t, d)
		mustSwitch(t, l, are...)
		after := d.Image()
		m := tell(after)
		half := (d.Size() - 2) / 2
		own, other := 2+(1-m.area)*half, 2+m.area*half

		for keep := range 2 + m.used + 1 {
			for _, torn := range torns() {
				d := load(t, before)
				writeAll(t, d, own+1, pending[(own+1)*64:(own+3)*64])
				writeAll(t, d, other, after[other*64:(other+m.used)*64])
				d.Crash(keep, torn)
				checkCrashed(t, d, were[:1], were[1:], min(keep, 2))
			}
		}
		for torn := range 65 {
			image := slices.Clone(after)
			copy(image[:128], before[:128])
			d := load(t, image)
			head := m.generation % 2
			writeAll(t, d, head, after[head*64:head*64+64])
			d.Crash(0, torn)
			_, records := mustOpen(t, d)
			if !same(records, were) && !same(records, are) || torn == 0 && !same(records, were) || torn == 64 && !same(records, are) {
				t.Fatalf("a head of %d bytes: %d records", torn, len(records))
			}
			l, _ := mustOpen(t, d)
			mustSwitch(t, l, text(9, 9))
			checkOpens(t, "switched behind a crash", d, text(9, 9))
		}
	}
}

// Long histories: what is told is held against what was handed in.
func TestHistories(t *testing.T) {
	for seed := range 300 {
		r := rand.New(rand.NewSource(int64(seed)))
		d := newDisk(t, 10+r.Intn(30))
		l := mustFormat(t, d)
		var flushed, others [][]byte
		for step := range 60 {
			record := text(r.Intn(150), step)
			switch r.Intn(8) {
			case 0:
				l.Flush()
				flushed, others = slices.Concat(flushed, others), nil
			case 1:
				if l.Switch([][]byte{record}) == api.OK {
					flushed, others = [][]byte{record}, nil
				}
			case 2, 3:
				keep := r.Intn(d.Pending() + 1)
				d.Crash(keep, r.Intn(65))
				l, flushed = checkCrashed(t, d, flushed, others, keep)
				others = nil
			default:
				if l.Append(record) == api.OK {
					others = append(others, record)
				}
			}
			checkOpens(t, "all along", d, slices.Concat(flushed, others)...)
		}
	}
}

// withRoom: bytes with spare room behind them, and all of that memory.
func withRoom(b []byte) ([]byte, []byte) {
	memory := append(slices.Clone(b), bytes.Repeat([]byte{77}, 200)...)
	return memory[:len(b)], memory
}

func TestHandedInIsNeitherChangedNorKept(t *testing.T) {
	for _, size := range []int{0, 1, 54, 55, 200} {
		d := newDisk(t, 42)
		l := mustFormat(t, d)
		record, memory := withRoom(text(size, 1))
		other, otherMemory := withRoom(text(size, 2))
		list := [][]byte{record, other, {7}}
		was, otherWas := slices.Clone(memory), slices.Clone(otherMemory)
		check := func(what string) {
			t.Helper()
			if !bytes.Equal(memory, was) || !bytes.Equal(otherMemory, otherWas) || !same(list, [][]byte{record, other, {7}}) {
				t.Errorf("%s: what was handed in was changed", what)
			}
		}
		mustSwitch(t, l, list[:2]...)
		check("Switch")
		mustAppend(t, l, record, other)
		check("Append")
		clear(memory)
		clear(otherMemory)
		list[0], list[1] = nil, nil
		checkOpens(t, "records that changed", d, text(size, 1), text(size, 2), text(size, 1), text(size, 2))
		l.Flush()
		checkOpens(t, "records that changed, flushed", d, text(size, 1), text(size, 2), text(size, 1), text(size, 2))
	}
}

func TestAnswersAreNew(t *testing.T) {
	d := newDisk(t, 42)
	mustAppend(t, mustFormat(t, d), text(10, 1), nil, text(60, 2), nil, text(54, 3))
	want := [][]byte{text(10, 1), nil, text(60, 2), nil, text(54, 3)}
	_, held := mustOpen(t, d)
	for i := range want {
		_, records := mustOpen(t, d)
		room := records[i][:cap(records[i])]
		for j := range room {
			room[j] = 99
		}
		records[i] = nil
		for j, record := range records {
			if j != i && !bytes.Equal(record, want[j]) {
				t.Error("two records share memory")
			}
		}
		checkOpens(t, "spoilt answers", d, want...)
	}
	if !same(held, want) {
		t.Error("two answers share memory")
	}
}

// The log goes on by itself, whatever is done to what it told.
func TestLogsAreApart(t *testing.T) {
	one, other := newDisk(t, 12), newDisk(t, 12)
	l, k := mustFormat(t, one), mustFormat(t, other)
	mustAppend(t, l, text(2, 1))
	mustAppend(t, k, text(60, 2))
	mustSwitch(t, l, text(2, 3))
	checkOpens(t, "the one", one, text(2, 3))
	checkOpens(t, "the other", other, text(60, 2))
	if l.Room() != 4 || k.Room() != 3 {
		t.Errorf("Room %d, %d", l.Room(), k.Room())
	}
}

// P1: all calls end, and none panics, whatever follows on whatever; a log is what its disk tells all along.

func FuzzLog(f *testing.F) {
	f.Add([]byte{}, []byte{}, 10, 0, 0)
	f.Add(areaOf(recordSectors(10, text(60, 1)), recordSectors(20, nil)), []byte{0, 8, 200, 1, 2, 16, 3, 4}, 22, 1, 60)
	f.Add(bytes.Repeat([]byte{255}, 704), []byte{5, 4, 0, 2, 10}, 11, -1, 70)
	f.Add(headSector(2, 1, most), []byte{0, 2, 10, 4, 18}, 12, math.MaxInt, math.MinInt)
	f.Add([]byte{9}, []byte{5, 13, 21, 29, 6, 14, 3, 4}, 9, 2, 3)
	f.Add(areaOf(begun(most)), []byte{2, 4, 0, 1, 5}, 22, 0, 1)
	f.Fuzz(func(t *testing.T, image, calls []byte, sectors, keep, torn int) {
		if sectors < 1 || sectors > 40 {
			sectors = 10
		}
		d, _ := disk.Load(image, sectors)
		l := reopen(t, d)
		for i, call := range calls {
			if l == nil {
				l, _ = wal.Format(d)
			}
			if l == nil {
				return
			}
			l = follow(t, d, l, call, i, keep, torn)
		}
	})
}

// reopen: the log that a disk has, held against what its bytes tell; nil, if there is none.
func reopen(t *testing.T, d *disk.Disk) *wal.Log {
	t.Helper()
	l, records, e := wal.Open(d)
	want, m := api.ErrRange, told{}
	if d.Size() >= 10 {
		want, m = api.OK, tell(now(t, d))
	}
	if want == api.OK && !m.there {
		want, m = api.ErrCorrupt, told{}
	}
	if e != want || (l != nil) != (want == api.OK) || !same(records, m.records) {
		t.Fatalf("Open: %v, %d records, %d, not %d", l, len(records), e, want)
	}
	if l != nil && l.Room() != m.room {
		t.Fatalf("Room %d, not %d", l.Room(), m.room)
	}
	return l
}

// fitting: the answer to records in so many free sectors.
func fitting(m told, room, size, count int) api.Errno {
	need := (size + 57) / 56 * count
	if size > 4096 && count > 0 {
		return api.ErrRange
	}
	if need > room || need > 0 && m.next+need > bound {
		return api.ErrFull
	}
	return api.OK
}

// follow: does a call on a log that was just opened, and holds its answer against what the disk told; answers the log that the disk has then.
func follow(t *testing.T, d *disk.Disk, l *wal.Log, call byte, mark, keep, torn int) *wal.Log {
	t.Helper()
	m := tell(now(t, d))
	size := []int{0, 1, 54, 55, 110, 111, 4096, 4097}[int(call>>3)%8]
	switch call % 8 {
	case 0, 1:
		if e := l.Append(text(size, mark)); e != fitting(m, m.room, size, 1) {
			t.Fatalf("Append of %d bytes: %d", size, e)
		}
	case 2, 3:
		count := mark % 3
		want := fitting(m, (d.Size()-2)/2, size, count)
		if want == api.OK && m.generation == bound-1 {
			want = api.ErrFull
		}
		if e := l.Switch(slices.Repeat([][]byte{text(size, mark)}, count)); e != want {
			t.Fatalf("Switch to %d of %d bytes: %d", count, size, e)
		}
	case 4:
		l.Flush()
	case 5:
		d.Crash(keep, torn)
	case 6:
		d.Crash(mark%5, int(call))
	case 7:
		d.Write(mark%d.Size(), begun(int(call)<<(mark%25)))
	}
	return reopen(t, d)
}
