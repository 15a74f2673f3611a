package world

import (
	"towline/api"
	"towline/talk"
)

// send: a letter is on its way, unless there are too many.
func (w *World) send(from, to int, kind uint64, parts ...[]byte) {
	if len(w.letters) < MaxFlight {
		w.letters = append(w.letters, letter{from: from, to: to, text: sealed(kind, parts...)})
	}
}

// come: a letter comes to its copy, which may answer.
func (w *World) come(l letter) {
	s := w.sites[l.to]
	if !s.up {
		return
	}
	switch kind, parts := opened(l.text); kind {
	case ask:
		w.answer(l)
	case tell:
		w.hear(l, idsOf(parts)[0])
	case want:
		w.send(l.to, l.from, give, talk.Serve(s, idsOf(parts)...)...)
	case give:
		if f := s.fetches[l.from]; f != nil {
			f.Take(parts...)
			w.further(l, f)
		}
	}
}

// answer: who asked is told the head. It is made durable ahead of that, as nobody may know of a snapshot that a crash takes back: another one would take its place, which doesn't come from it.
func (w *World) answer(l letter) {
	s := w.sites[l.to]
	if e := s.fs.Flush(); e != api.OK {
		return
	}
	if head := s.Head(); head != (api.ID{}) {
		w.send(l.to, l.from, tell, head[:])
	}
}

// hear: the head of another copy was told, which is to be known.
func (w *World) hear(l letter, head api.ID) {
	s := w.sites[l.to]
	if known, e := s.Peer(Name(l.from)); e == api.OK && known == head {
		return
	}
	f := s.fetches[l.from]
	if f == nil || f.Root() != head {
		f = newFetch(s.Replica, head)
		s.fetches[l.from] = f
	}
	f.begin(len(w.sites))
	w.further(l, f)
}

// further: what is lacking is asked for; if nothing is, it is known, unless the copy refuses that.
func (w *World) further(l letter, f *fetch) {
	if !f.news() {
		return
	}
	if len(f.asked) > 0 {
		w.send(l.to, l.from, want, partsOf(f.asked)...)
		return
	}
	s := w.sites[l.to]
	delete(s.fetches, l.from)
	s.Accept(Name(l.from), f.Root(), f.Records())
}
