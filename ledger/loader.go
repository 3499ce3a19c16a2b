package ledger

import (
	"lamella/api"
	"lamella/proto"
	"lamella/xdr"
)

// loader is a state that is read row by row: the row, what is read of its key's numbers, and what of its value.
type loader struct {
	api.State
	row        api.Change
	key, value *xdr.Reader
}

// meanings are what rows mean, by the first letter of their keys.
func meanings() map[string]func(*loader) {
	return map[string]func(*loader){
		letterBoot:  (*loader).boot,
		letterNext:  (*loader).next,
		letterLock:  (*loader).lock,
		letterInode: (*loader).inode,
		letterOpen:  (*loader).open,
		letterSeat:  (*loader).seat,
		letterWork:  (*loader).work,
	}
}

// boot reads the server's boot.
func (x *loader) boot() { x.Boot = x.value.Number() }

// next reads the number of the next inode.
func (x *loader) next() { x.Next = x.value.Number() }

// lock reads a lock.
func (x *loader) lock() {
	l := api.Lock{
		File:   x.key.Number(),
		Epoch:  x.value.Number(),
		Used:   x.value.Number(),
		Cut:    x.value.Number(),
		Fenced: x.value.Flag(),
		Gone:   x.value.Flag(),
	}
	pairs := x.value.List(2 * api.MaxHolders)
	for i := 1; i < len(pairs); i += 2 {
		l.Holders = append(l.Holders, api.Holder{Client: pairs[i-1], Mode: pairs[i]})
	}
	x.Locks = append(x.Locks, l)
}

// inode reads a file or a directory.
func (x *loader) inode() {
	x.Tree = append(x.Tree, api.Inode{
		Id:     x.key.Number(),
		Parent: x.value.Number(),
		Dir:    x.value.Flag(),
		Size:   x.value.Number(),
		Name:   x.value.Text(api.MaxName),
	})
}

// open reads an open.
func (x *loader) open() {
	x.Opens = append(x.Opens, api.Open{
		Client: x.key.Number(),
		Handle: x.key.Number(),
		File:   x.value.Number(),
		Access: x.value.Number(),
		Deny:   x.value.Number(),
	})
}

// seat reads a seat.
func (x *loader) seat() {
	// What is no packet is read as the zero one, which no seat has.
	reply, _ := proto.Read(x.row.Value)
	x.Seats = append(x.Seats, api.Heard{Client: x.key.Number(), Reply: reply})
}

// work reads a work.
func (x *loader) work() {
	x.Works = append(x.Works, api.Work{
		File:   x.key.Number(),
		Client: x.value.Number(),
		Life:   x.value.Number(),
		Seq:    x.value.Number(),
		Code:   int(x.value.Number()),
		Off:    x.value.Number(),
		Len:    x.value.Number(),
		Data:   x.value.Text(api.MaxWrite),
	})
}
