package wire

import (
	"sojourn/api"
	"sojourn/fail"
)

// maxSession is how many bytes the name of a session has at most.
const maxSession = 64

// EncodeWrite is a write's bytes.
func EncodeWrite(w api.Write) (string, error) {
	if !rightWrite(w) {
		return "", fail.At("wire", 0, api.ErrArg)
	}
	var o Out
	o.Num(w.Region)
	o.Num(w.Number)
	o.Num(w.Stamp.Time)
	o.Vec(w.Deps)
	o.Text(w.Session)
	o.Text(w.Key)
	o.Flag(w.Gone)
	o.Text(w.Value)
	o.Num(w.Life)
	return o.Done()
}

// DecodeWrite is the write of bytes.
func DecodeWrite(s string) (api.Write, error) {
	i := Read(s)
	var w api.Write
	w.Region = i.Num(api.MaxRegions)
	w.Number = i.Num(api.MaxNum)
	w.Stamp = api.Stamp{Time: i.Num(api.MaxNum), Region: w.Region}
	w.Deps = i.Vec()
	w.Session = i.Text(maxSession)
	w.Key = i.Text(api.MaxKey)
	w.Gone = i.Flag()
	w.Value = i.Text(api.MaxValue)
	w.Life = i.Num(api.MaxNum)
	if err := i.End(); err != nil {
		return api.Write{}, err
	}
	if !rightWrite(w) {
		return api.Write{}, fail.At("wire", 0, api.ErrForm)
	}
	return w, nil
}

// EncodeClaims is claims' bytes.
func EncodeClaims(c api.Claims) (string, error) {
	if !rightClaims(c) {
		return "", fail.At("wire", 0, api.ErrArg)
	}
	var o Out
	o.Text(c.Session)
	o.Text(c.User)
	o.Num(c.Epoch)
	o.Num(c.Issue)
	o.Num(c.Key)
	o.Vec(c.Context)
	return o.Done()
}

// DecodeClaims is the claims of bytes.
func DecodeClaims(s string) (api.Claims, error) {
	i := Read(s)
	var c api.Claims
	c.Session = i.Text(maxSession)
	c.User = i.Text(api.MaxName)
	c.Epoch = i.Num(api.MaxNum)
	c.Issue = i.Num(api.MaxNum)
	c.Key = i.Num(api.MaxNum)
	c.Context = i.Vec()
	if err := i.End(); err != nil {
		return api.Claims{}, err
	}
	if !rightClaims(c) {
		return api.Claims{}, fail.At("wire", 0, api.ErrForm)
	}
	return c, nil
}

// rightWrite tells whether a write is right.
func rightWrite(w api.Write) bool {
	return within(w.Region, 1, api.MaxRegions) &&
		within(w.Number, 1, api.MaxNum) &&
		within(w.Stamp.Time, 1, api.MaxNum) &&
		w.Stamp.Region == w.Region &&
		rightVector(w.Deps) &&
		within(len(w.Session), 1, maxSession) &&
		len(w.Key) <= api.MaxKey &&
		len(w.Value) <= api.MaxValue &&
		(w.Value == "" || !w.Gone) &&
		within(w.Life, 0, api.MaxNum)
}

// rightClaims tells whether claims are right.
func rightClaims(c api.Claims) bool {
	return within(len(c.Session), 1, maxSession) &&
		within(len(c.User), 1, api.MaxName) &&
		within(c.Epoch, 0, api.MaxNum) &&
		within(c.Issue, 0, api.MaxNum) &&
		within(c.Key, 0, api.MaxNum) &&
		rightVector(c.Context)
}

// rightVector tells whether Deps or a Context may be this vector.
func rightVector(v api.Vector) bool {
	if len(v) > api.MaxRegions || !trimmed(v) {
		return false
	}
	for _, n := range v {
		if !within(n, 0, api.MaxNum) {
			return false
		}
	}
	return true
}

// within tells whether n is from least to most.
func within(n, least, most int) bool {
	return least <= n && n <= most
}
