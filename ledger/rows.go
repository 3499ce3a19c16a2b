package ledger

import (
	"slices"

	"lamella/api"
	"lamella/proto"
	"lamella/xdr"
)

// The first letters of keys.
const (
	letterBoot  = "B"
	letterNext  = "I"
	letterLock  = "L"
	letterInode = "N"
	letterOpen  = "O"
	letterSeat  = "S"
	letterWork  = "W"
)

// Rows are a state's.
func Rows(s api.State) ([]api.Change, api.Errno) {
	if !Right(s) {
		return nil, api.ErrArg
	}
	// The letters rise here, and so do the numbers of each list, whose bytes have their order: so do the keys.
	l := []api.Change{numberRow(letterBoot, s.Boot), numberRow(letterNext, s.Next)}
	for _, k := range s.Locks {
		l = append(l, lockRow(k))
	}
	for _, n := range s.Tree[1:] {
		l = append(l, inodeRow(n))
	}
	for _, o := range s.Opens {
		l = append(l, openRow(o))
	}
	for _, h := range s.Seats {
		l = append(l, seatRow(h))
	}
	for _, w := range s.Works {
		l = append(l, workRow(w))
	}
	return l, api.OK
}

// Changes lead from one state to another one.
func Changes(was, now api.State) ([]api.Change, api.Errno) {
	before, err := Rows(was)
	if err != api.OK {
		return nil, err
	}
	after, err := Rows(now)
	if err != api.OK {
		return nil, err
	}
	var l []api.Change
	for len(before) > 0 && len(after) > 0 {
		b, a := before[0], after[0]
		if b.Key <= a.Key {
			before = before[1:]
		}
		if a.Key <= b.Key {
			after = after[1:]
		}
		switch {
		case b.Key < a.Key:
			l = append(l, gone(b))
		case a != b:
			l = append(l, a)
		}
	}
	for _, b := range before {
		l = append(l, gone(b))
	}
	return append(l, after...), api.OK
}

// Read is the state of rows.
func Read(l []api.Change) (api.State, api.Errno) {
	if len(l) == 0 {
		return Fresh(), api.OK
	}
	x := loader{State: api.State{Tree: root()}}
	table := meanings()
	for _, c := range l {
		if c.Key == "" {
			return api.State{}, api.ErrSpoilt
		}
		meaning, known := table[c.Key[:1]]
		if !known {
			return api.State{}, api.ErrSpoilt
		}
		x.row, x.key, x.value = c, xdr.NewReader(c.Key[1:]), xdr.NewReader(c.Value)
		meaning(&x)
	}
	// A state has only one form of rows: what was read amiss has others, or none.
	rows, err := Rows(x.State)
	if err != api.OK || !slices.Equal(rows, l) {
		return api.State{}, api.ErrSpoilt
	}
	return x.State, api.OK
}

// gone is that a row is to be no more.
func gone(row api.Change) api.Change { return api.Change{Key: row.Key, Gone: true} }

// key is a letter with numbers.
func key(letter string, numbers ...uint32) string {
	var w xdr.Writer
	for _, n := range numbers {
		w.Number(n)
	}
	return letter + w.Bytes()
}

// numberRow is the row of a number that stands alone.
func numberRow(letter string, n uint32) api.Change {
	var w xdr.Writer
	w.Number(n)
	return api.Change{Key: key(letter), Value: w.Bytes()}
}

// lockRow is a lock's row.
func lockRow(l api.Lock) api.Change {
	var w xdr.Writer
	w.Number(l.Epoch)
	w.Number(l.Used)
	w.Number(l.Cut)
	w.Flag(l.Fenced)
	w.Flag(l.Gone)
	var holders []uint32
	for _, h := range l.Holders {
		holders = append(holders, h.Client, h.Mode)
	}
	w.List(holders...)
	return api.Change{Key: key(letterLock, l.File), Value: w.Bytes()}
}

// inodeRow is the row of a file or a directory.
func inodeRow(n api.Inode) api.Change {
	var w xdr.Writer
	w.Number(n.Parent)
	w.Flag(n.Dir)
	w.Number(n.Size)
	w.Text(n.Name)
	return api.Change{Key: key(letterInode, n.Id), Value: w.Bytes()}
}

// openRow is an open's row.
func openRow(o api.Open) api.Change {
	var w xdr.Writer
	w.Number(o.File)
	w.Number(o.Access)
	w.Number(o.Deny)
	return api.Change{Key: key(letterOpen, o.Client, o.Handle), Value: w.Bytes()}
}

// seatRow is a seat's row.
func seatRow(h api.Heard) api.Change {
	// The packet of a seat that may be is valid, so that it has bytes.
	value, _ := proto.Write(h.Reply)
	return api.Change{Key: key(letterSeat, h.Client), Value: value}
}

// workRow is a work's row.
func workRow(x api.Work) api.Change {
	var w xdr.Writer
	w.Number(x.Client)
	w.Number(x.Life)
	w.Number(x.Seq)
	w.Number(uint32(x.Code))
	w.Number(x.Off)
	w.Number(x.Len)
	w.Text(x.Data)
	return api.Change{Key: key(letterWork, x.File), Value: w.Bytes()}
}
