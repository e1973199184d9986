package isadl

import "dovetail/api"

// reader is a description that is being read.
type reader struct {
	api.Desc
	args []api.Arg  // of the form that is being read
	left []api.Tree // of the list that is being read, what hasn't been looked at
	err  api.Errno  // the first one met
}

// fail keeps an error, if none was met ahead of it.
func (r *reader) fail(e api.Errno) {
	if r.err == api.OK {
		r.err = e
	}
}

// more says whether there is a part to be looked at. Behind an error there is none, so that all reading ends soon.
func (r *reader) more() bool { return r.err == api.OK && len(r.left) > 0 }

// at says whether the next part is of a kind.
func (r *reader) at(kind int) bool { return r.more() && r.left[0].Kind == kind }

// take reads a part of a kind.
func (r *reader) take(kind int) api.Tree {
	if !r.at(kind) {
		r.fail(api.ErrIsa)
		return api.Tree{}
	}
	t := r.left[0]
	r.left = r.left[1:]
	return t
}

func (r *reader) word() string { return r.take(api.TreeWord).Word }

func (r *reader) text() string { return r.take(api.TreeText).Word }

func (r *reader) integer() int { return r.take(api.TreeNum).Num }

// number reads a number from 0 on.
func (r *reader) number() int {
	n := r.integer()
	if n < 0 {
		r.fail(api.ErrIsa)
	}
	return n
}

// ahead is the next part without reading it, if it is a word; else "".
func (r *reader) ahead() string {
	if !r.at(api.TreeWord) {
		return ""
	}
	return r.left[0].Word
}

// taken reads a word, if it is the next part, and says whether it was.
func (r *reader) taken(word string) bool {
	if r.ahead() != word {
		return false
	}
	r.left = r.left[1:]
	return true
}

// oneOf reads a word of a list and says which one it is.
func (r *reader) oneOf(words []string) int {
	n := place(words, itself, r.word())
	if n < 0 {
		r.fail(api.ErrIsa)
	}
	return n
}

// within reads a list, the parts of which are read by a function; it must leave none.
func (r *reader) within(read func()) {
	t := r.take(api.TreeList)
	if r.err != api.OK {
		return
	}
	outer := r.left
	r.left = t.Kids
	read()
	if r.more() {
		r.fail(api.ErrIsa)
	}
	r.left = outer
}

// several reads what is left of a list, part by part, of which there may be so many.
func several[T any](r *reader, most int, read func() T) []T {
	var l []T
	for r.more() {
		l = append(l, read())
		if len(l) > most {
			r.fail(api.ErrIsaMany)
		}
	}
	return l
}

// newName reads the name of a part that is to come to a list, which may have so many.
func newName[T any](r *reader, l []T, nameOf func(T) string, most int) string {
	name := r.word()
	if place(l, nameOf, name) >= 0 {
		r.fail(api.ErrIsaName)
	}
	room(r, l, most)
	return name
}

// room looks at whether one more may come to a list.
func room[T any](r *reader, l []T, most int) {
	if len(l) >= most {
		r.fail(api.ErrIsaMany)
	}
}

// known reads a name and says where in a list it is.
func known[T any](r *reader, l []T, nameOf func(T) string) int {
	return found(r, l, nameOf, r.word())
}

// found says where in a list a name is that was read.
func found[T any](r *reader, l []T, nameOf func(T) string, name string) int {
	n := place(l, nameOf, name)
	if n < 0 {
		r.fail(api.ErrIsaName)
	}
	return n
}
