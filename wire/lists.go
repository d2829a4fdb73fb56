package wire

import (
	"quidnunc/api"
	"quidnunc/octets"
)

// each tells whether something is so of each element of a list.
func each[T any](l []T, isSo func(T) bool) bool {
	for _, one := range l {
		if !isSo(one) {
			return false
		}
	}
	return true
}

// putList puts a list, how many there are ahead.
func putList[T any](w *octets.Writer, l []T, put func(*octets.Writer, T)) {
	w.Number(uint64(len(l)), manyBytes)
	for _, one := range l {
		put(w, one)
	}
}

// takeList takes a list.
func takeList[T any](r *octets.Reader, take func(*octets.Reader) T) []T {
	many := r.Number(manyBytes)
	if many > api.MaxList {
		// Said at once, not when all was taken: else bytes that end too early would be told in its place.
		r.Fail(api.ErrForm)
		return nil
	}
	var l []T
	for range many {
		l = append(l, take(r))
	}
	return l
}
