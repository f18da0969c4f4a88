package daycount

import "fundadmin/api"

// Parse returns the basis that a word denotes.
func Parse(s string) (int, api.Errno) {
	for basis := api.Act360; basis <= api.Thirty360; basis++ {
		// All of these have words, so there is no error.
		if word, _ := Format(basis); word == s {
			return basis, api.OK
		}
	}
	return 0, api.ErrBasis
}

// Format returns the word of a basis.
func Format(basis int) (string, api.Errno) {
	switch basis {
	case api.Act360:
		return "act360", api.OK
	case api.Act365:
		return "act365", api.OK
	case api.ActAct:
		return "actact", api.OK
	case api.Thirty360:
		return "thirty360", api.OK
	}
	return "", api.ErrBasis
}
