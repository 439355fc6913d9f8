package wire

import (
	"sentry/api"
	"sentry/codec"
)

// writer writes bytes, as long as nothing stands too deep.
type writer struct {
	b     []byte
	depth int
	deep  bool
}

func (w *writer) number(v uint64) { w.b = append(w.b, codec.Put(nil, v)...) }

// whole writes a whole number: what is below 0 stands between those that aren't.
func (w *writer) whole(v int) { w.long(int64(v)) }

func (w *writer) long(v int64) { w.number(uint64(v)<<1 ^ uint64(v>>63)) }

func (w *writer) truth(is bool) {
	if is {
		w.number(1)
	} else {
		w.number(0)
	}
}

func (w *writer) texts(l ...string) {
	for _, s := range l {
		w.b = append(w.b, codec.PutText(nil, s)...)
	}
}

// putList writes how many items there are, and each.
func putList[T any](w *writer, l []T, item func(x T)) {
	w.number(uint64(len(l)))
	for _, x := range l {
		if w.deep {
			return
		}
		item(x)
	}
}

// within writes what stands within something, if it isn't too deep.
func (w *writer) within(write func()) {
	w.depth++
	w.deep = w.deep || w.depth > deepest
	if !w.deep {
		write()
	}
	w.depth--
}

func (w *writer) obj(o api.Obj) { w.texts(o.Type, o.ID) }

func (w *writer) sub(s api.Sub) {
	w.obj(s.Obj)
	w.texts(s.Rel)
}

func (w *writer) point(p api.Point) {
	w.obj(p.Obj)
	w.texts(p.Rel)
}

func (w *writer) tuple(t api.Tuple) {
	w.obj(t.Obj)
	w.texts(t.Rel)
	w.sub(t.Sub)
}

func (w *writer) write(x api.Write) {
	w.truth(x.Del)
	w.tuple(x.Tuple)
}

func (w *writer) pre(x api.Pre) {
	w.truth(x.Not)
	w.tuple(x.Tuple)
}

func (w *writer) ask(x api.Ask) {
	w.point(x.Point)
	w.sub(x.Sub)
}

func (w *writer) arg(x api.Arg) {
	w.texts(x.Name)
	w.whole(x.Val.Kind)
	w.long(x.Val.N)
	w.texts(x.Val.S)
}

func (w *writer) event(x api.Event) {
	w.number(x.Rev)
	w.write(x.Write)
}

func (w *writer) rule(r api.Rule) {
	w.within(func() {
		w.whole(r.Kind)
		w.texts(r.A, r.B)
		putList(w, r.Parts, w.rule)
	})
}

func (w *writer) step(x api.Step) {
	w.point(x.Point)
	w.rule(x.Rule)
	w.sub(x.Sub)
	putList(w, x.By, w.whole)
}

func (w *writer) node(n api.Node) {
	w.within(func() {
		w.whole(n.Kind)
		w.obj(n.Obj)
		w.texts(n.Rel)
		putList(w, n.Subs, w.sub)
		putList(w, n.Parts, w.node)
	})
}
