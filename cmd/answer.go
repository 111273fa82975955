package cmd

import (
	"daisychain/api"
	"daisychain/coil"
	"daisychain/queue"
	"daisychain/shop"
)

// RightAnswer tells whether an answer may be written.
func RightAnswer(a shop.Answer) bool {
	right := func(x queue.Took) bool {
		return fits(x.Id) && fits(x.Count) && short(x.Receipt) && short(x.Body) && short(x.Group)
	}
	return len(a.Ids) <= api.MaxBatch && len(a.Took) <= api.MaxBatch && fits(a.Code) && all(a.Ids, fits) && all(a.Took, right)
}

// WriteAnswer is an answer's bytes.
func WriteAnswer(a shop.Answer) ([]byte, error) {
	if !RightAnswer(a) {
		return nil, &refusal{"an answer that is not valid", api.ErrArg}
	}
	b := coil.Num(nil, a.Code)
	b = coil.Nums(b, a.Ids)
	b = coil.Num(b, len(a.Took))
	for _, x := range a.Took {
		b = coil.Num(b, x.Id)
		b = coil.Num(b, x.Count)
		b = coil.Text(b, x.Receipt)
		b = coil.Text(b, x.Body)
		b = coil.Text(b, x.Group)
	}
	return b, nil
}

// ReadAnswer is the answer of bytes.
func ReadAnswer(b []byte) (shop.Answer, error) {
	var a shop.Answer
	r := coil.Of(b)
	a.Code = r.Num()
	a.Ids = r.Nums(api.MaxBatch)
	for range min(r.Num(), api.MaxBatch) {
		a.Took = append(a.Took, took(r))
	}
	return exactly(b, r, a, WriteAnswer)
}

// took is the message that comes next.
func took(r *coil.Reader) (x queue.Took) {
	x.Id = r.Num()
	x.Count = r.Num()
	x.Receipt = r.Text(api.MaxText)
	x.Body = r.Text(api.MaxText)
	x.Group = r.Text(api.MaxText)
	return x
}
