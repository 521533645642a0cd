package play

import (
	"haycock/api"
	"haycock/pq"
)

// player does what a record asks for upon the store that it embeds.
type player struct {
	*pq.Store
}

// act is how a player does a record of one operation.
type act func(p player, r api.Record) api.Reply

// acts are those of all operations, by their numbers.
func acts() [api.OpHome + 1]act {
	return [...]act{
		api.OpBad:      player.bad,
		api.OpNew:      player.newHeap,
		api.OpInsert:   player.insert,
		api.OpMin:      player.least,
		api.OpExtract:  player.extract,
		api.OpDecrease: player.decrease,
		api.OpDelete:   player.drop,
		api.OpMeld:     player.meld,
		api.OpLen:      player.size,
		api.OpKey:      player.key,
		api.OpHome:     player.home,
	}
}

// handle is the one that a record names by its slot and its generation.
func handle(r api.Record) api.Handle {
	return api.Handle{Slot: int(r.A), Gen: r.B}
}

func (p player) bad(api.Record) api.Reply {
	return api.Reply{Code: api.ErrBadOp}
}

func (p player) newHeap(api.Record) api.Reply {
	h, e := p.NewHeap()
	return api.Reply{Code: e, Heap: h}
}

func (p player) insert(r api.Record) api.Reply {
	x, e := p.Insert(int(r.A), r.Key)
	return api.Reply{Code: e, Handle: x}
}

func (p player) least(r api.Record) api.Reply {
	x, key, e := p.Min(int(r.A))
	return api.Reply{Code: e, Handle: x, Key: key}
}

func (p player) extract(r api.Record) api.Reply {
	x, key, e := p.ExtractMin(int(r.A))
	return api.Reply{Code: e, Handle: x, Key: key}
}

func (p player) decrease(r api.Record) api.Reply {
	return api.Reply{Code: p.DecreaseKey(handle(r), r.Key)}
}

func (p player) drop(r api.Record) api.Reply {
	key, e := p.Delete(handle(r))
	return api.Reply{Code: e, Key: key}
}

func (p player) meld(r api.Record) api.Reply {
	return api.Reply{Code: p.Meld(int(r.A), int(r.B))}
}

func (p player) size(r api.Record) api.Reply {
	n, e := p.Len(int(r.A))
	return api.Reply{Code: e, N: n}
}

func (p player) key(r api.Record) api.Reply {
	key, e := p.Key(handle(r))
	return api.Reply{Code: e, Key: key}
}

func (p player) home(r api.Record) api.Reply {
	h, e := p.Home(handle(r))
	return api.Reply{Code: e, Heap: h}
}
