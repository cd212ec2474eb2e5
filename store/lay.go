package store

import (
	"bytes"
	"slices"

	"roadstead/api"
	"roadstead/crc"
	"roadstead/tree"
)

// What a device is laid out in: the heads, the journal, the areas.
const (
	heads  = 2
	areas  = 2
	inPage = api.Page / api.Sector // sectors
)

// headBytes are those of a head ahead of its check.
const headBytes = 60

// device is what a store needs of the one that it lies on.
type device interface {
	Len() int
	Read(i int) ([]byte, api.Errno)
	Write(i int, b []byte) api.Errno
	Flush()
}

// head tells of a laying.
type head struct {
	epoch int
	area  int
	pages int
}

// sector is what a head is written as.
func (h head) sector() []byte {
	b := make([]byte, headBytes)
	copy(b, []byte{
		'R', 'S',
		byte(h.epoch >> 24), byte(h.epoch >> 16), byte(h.epoch >> 8), byte(h.epoch),
		byte(h.area),
		byte(h.pages >> 8), byte(h.pages),
	})
	return crc.Seal(b)
}

// readHead is the head that a sector has; false, if it has none that may be, where an area has room for so many pages at most.
func readHead(b []byte, most int) (head, bool) {
	h := head{
		epoch: int(b[2])<<24 | int(b[3])<<16 | int(b[4])<<8 | int(b[5]),
		area:  int(b[6]),
		pages: int(b[7])<<8 | int(b[8]),
	}
	may := h.epoch >= 1 && h.epoch <= api.MaxSeq && h.area < areas && h.pages >= 1 && h.pages <= most
	return h, may && bytes.Equal(h.sector(), b)
}

// newest is the head of the greatest epoch; false, if there is none.
func newest(d device) (head, bool) {
	_, most := Layout(d.Len())
	var last head
	for _, s := range read(d, 0, heads) {
		if h, ok := readHead(s, most); ok && h.epoch > last.epoch {
			last = h
		}
	}
	return last, last.epoch > 0
}

// lay writes the pages of rows to an area, and, when these are firm, their head. Till that is firm, too, the head of the epoch ahead holds; and of what that tells nothing was touched.
func lay(d device, epoch, area int, l []api.Row) {
	pages, _ := tree.Build(l)
	write(d, first(d, area), slices.Collect(slices.Chunk(slices.Concat(pages...), api.Sector)))
	d.Flush()
	h := head{epoch: epoch, area: area, pages: len(pages)}
	write(d, epoch%heads, [][]byte{h.sector()})
	d.Flush()
}

// laid are the pages that a head tells of.
func laid(d device, h head) [][]byte {
	l := read(d, first(d, h.area), h.pages*inPage)
	return slices.Collect(slices.Chunk(slices.Concat(l...), api.Page))
}

// fit says whether an area has room for rows.
func fit(d device, l []api.Row) bool {
	_, most := Layout(d.Len())
	pages, ok := tree.Build(l)
	return ok && len(pages) <= most
}

// first is the first sector of an area.
func first(d device, area int) int {
	journal, most := Layout(d.Len())
	return heads + journal + area*most*inPage
}

// write writes sectors, from one on. None is refused: all lie within the layout, and none has more bytes than a sector.
func write(d device, at int, sectors [][]byte) {
	for i, s := range sectors {
		d.Write(at+i, s)
	}
}

// read are so many sectors, from one on. None is refused, likewise.
func read(d device, at, n int) [][]byte {
	var l [][]byte
	for i := range n {
		s, _ := d.Read(at + i)
		l = append(l, s)
	}
	return l
}
