import PyProof.Rows.All
import Wide.All
import OpenK.AllK
import Wide.FinOn
import HandS.ForMost
import HandS.IsInst
import HandS.FStr
import HandS.ExcInit
import HandS.ExcField
import KE.KExcIs
import HandS.Style
import HandS.Text
import HandS.Walk
import HandS.ForExc
import HandS.ExcIs
import HandS.TryOnly
import HandS.Iter
import HandS.TupAny
import PyProof.ReprRoads
import HandS.Dict
import HandS.Words
import HandS.Ends
import PyProof.ReprLen
import PyProof.StrLawsRepr
import KE.DataCmp
import HandS.ExcOwn
import HandS.Defaults
import PyProof.Logic
import HandS.IterVal
import HandS.OwnIter
import HandS.DictComp
import HandS.TryMany
import HandS.Exc
import HandS.CallSlots
import HandS.Call
import PySem.Challenge.RW_joinedends_k08_declare
set_option Elab.async false
set_option maxRecDepth 100000
/-! ### terms, and what a heap says of them -/
namespace J
open PySem L2

/-- a term of the document -/
inductive Tm where
  | var (n : Int)
  | app (f : Str) (ts : List Tm)

mutual
def Tm.sz : Tm → Nat
  | .var _ => 1
  | .app _ ts => 1 + Tm.szs ts
def Tm.szs : List Tm → Nat
  | [] => 0
  | t :: ts => Tm.sz t + Tm.szs ts
end
mutual
def Tm.dep : Tm → Nat
  | .var _ => 1
  | .app _ ts => 1 + Tm.deps ts
def Tm.deps : List Tm → Nat
  | [] => 0
  | t :: ts => max (Tm.dep t) (Tm.deps ts)
end
mutual
/-- t stands in H as the value v -/
def TmIn (H : Hp) : Tm → V → Prop
  | .var n, v => v = .int n
  | .app f ts, v => ∃ a vs, v = .ref a ∧ H a = some (.tup (.str f :: vs)) ∧ TmsIn H ts vs
def TmsIn (H : Hp) : List Tm → List V → Prop
  | [], vs => vs = []
  | t :: ts, vs => ∃ v r, vs = v :: r ∧ TmIn H t v ∧ TmsIn H ts r
end
/-- the arity of the k-th drawn operation -/
def ar (k : Nat) : Nat := if k < 2 then 0 else if k = 5 then 2 else k - 1
theorem ar_zero {k : Nat} (h : k < 2) : ar k = 0 := if_pos h
theorem ar_two {n : Nat} (h : n < 3) : ar (n + 2) = n + 1 := by unfold ar; rw [if_neg (by omega), if_neg (by omega)]; rfl
theorem ar_le {k : Nat} (h : k < 6) : ar k ≤ 3 := by unfold ar; split; · omega
                                                     · split <;> omega
theorem ar_pos {k : Nat} (h : 2 ≤ k) : 1 ≤ ar k := by unfold ar; rw [if_neg (by omega)]; split <;> omega
mutual
/-- variables below B, applications of the named operations -/
def Tm.wf (fs : List Str) (B : Int) : Tm → Prop
  | .var n => 0 ≤ n ∧ n < B
  | .app f ts => (∃ k, fs[k]? = some f ∧ ts.length = ar k) ∧ Tm.wfs fs B ts
def Tm.wfs (fs : List Str) (B : Int) : List Tm → Prop
  | [] => True
  | t :: ts => Tm.wf fs B t ∧ Tm.wfs fs B ts
end

/-- induction over terms -/
theorem Tm.ind {P : Tm → Prop} (hv : ∀ n, P (.var n)) (ha : ∀ f ts, (∀ t ∈ ts, P t) → P (.app f ts)) : ∀ t, P t
  | .var n => hv n
  | .app f ts => ha f ts (go ts)
where go : ∀ ts : List Tm, ∀ t ∈ ts, P t
  | [], _, h => nomatch h
  | u :: us, t, h => by
    rcases List.mem_cons.mp h with e | h
    · rw [e]; exact Tm.ind hv ha u
    · exact go us t h

theorem Tm.sz_pos : ∀ t : Tm, 1 ≤ t.sz
  | .var _ => Nat.le_refl _
  | .app _ _ => by show 1 ≤ 1 + _; omega
theorem Tm.dep_pos : ∀ t : Tm, 1 ≤ t.dep
  | .var _ => Nat.le_refl _
  | .app _ _ => by show 1 ≤ 1 + _; omega
theorem Tm.dep_of_mem : ∀ {ts : List Tm} {t : Tm}, t ∈ ts → t.dep ≤ Tm.deps ts
  | u :: us, t, h => by
    show t.dep ≤ max u.dep (Tm.deps us)
    rcases List.mem_cons.mp h with e | h
    · rw [e]; omega
    · have := Tm.dep_of_mem h; omega
theorem Tm.deps_le : ∀ {ts : List Tm} {n : Nat}, (∀ t ∈ ts, t.dep ≤ n) → Tm.deps ts ≤ n
  | [], _, _ => Nat.zero_le _
  | u :: us, n, h => by
    have h1 := h u (List.mem_cons_self ..)
    have h2 := Tm.deps_le (ts := us) fun t m => h t (List.mem_cons_of_mem _ m)
    show max u.dep (Tm.deps us) ≤ n
    omega
theorem Tm.szs_le : ∀ {ts : List Tm} {M : Nat}, (∀ t ∈ ts, 2 * t.sz + 1 ≤ M) → 2 * Tm.szs ts + ts.length ≤ ts.length * M
  | [], _, _ => by show 2 * 0 + 0 ≤ _; omega
  | u :: us, M, h => by
    have h1 := h u (List.mem_cons_self ..)
    have h2 := Tm.szs_le (ts := us) (M := M) fun t m => h t (List.mem_cons_of_mem _ m)
    show 2 * (u.sz + Tm.szs us) + (us.length + 1) ≤ (us.length + 1) * M
    rw [Nat.add_mul, Nat.one_mul]
    omega
theorem Tm.szs_three {ts : List Tm} {h : Nat} (hl : ts.length ≤ 3) (hw : ∀ t ∈ ts, 2 * t.sz + 1 ≤ 3 ^ h) : 2 * (1 + Tm.szs ts) + 1 ≤ 3 ^ (h + 1) := by
  have h1 := Tm.szs_le hw
  have h3 : 1 ≤ 3 ^ h := Nat.pow_pos (by decide)
  have h2 : 3 ^ (h + 1) = 3 ^ h * 3 := rfl
  generalize 3 ^ h = M at *
  rw [h2]
  match e : ts.length, hl with
  | 0, _ => rw [e] at h1; omega
  | 1, _ => rw [e] at h1; omega
  | 2, _ => rw [e] at h1; omega
  | 3, _ => rw [e] at h1; omega
theorem Tm.wf_of_mem {fs : List Str} {B : Int} : ∀ {ts : List Tm} {t : Tm}, Tm.wfs fs B ts → t ∈ ts → t.wf fs B
  | u :: us, t, w, h => by
    have w : u.wf fs B ∧ Tm.wfs fs B us := w
    rcases List.mem_cons.mp h with e | h
    · rw [e]; exact w.1
    · exact Tm.wf_of_mem w.2 h
theorem Tm.wfs_of {fs : List Str} {B : Int} : ∀ {ts : List Tm}, (∀ t ∈ ts, t.wf fs B) → Tm.wfs fs B ts
  | [], _ => True.intro
  | u :: us, h => ⟨h u (List.mem_cons_self ..), Tm.wfs_of fun t m => h t (List.mem_cons_of_mem _ m)⟩

/-- a tuple that is known stays known -/
def Tu (H H' : Hp) : Prop := ∀ a xs, H a = some (.tup xs) → H' a = some (.tup xs)
theorem Tu.refl (H : Hp) : Tu H H := fun _ _ h => h
theorem Tu.trans {H H1 H2 : Hp} (a : Tu H H1) (b : Tu H1 H2) : Tu H H2 := fun x y h => b x y (a x y h)
theorem tu_same {H H' : Hp} (s : Same H H') : Tu H H' := fun a _ h => s a _ h
theorem tu_upd {H : Hp} {p : Addr} {o : HO} (h : ∀ xs, H p ≠ some (.tup xs)) : Tu H (upd H p o) := fun a xs e => by
  have ne : a ≠ p := fun z => by subst z; exact h _ e
  rw [upd_ne ne]; exact e
mutual
theorem TmIn.mono {H H' : Hp} (s : Tu H H') : ∀ (t : Tm) (v : V), TmIn H t v → TmIn H' t v
  | .var _, _, h => h
  | .app _ ts, _, ⟨a, vs, e, h, r⟩ => ⟨a, vs, e, s _ _ h, TmsIn.mono s ts vs r⟩
theorem TmsIn.mono {H H' : Hp} (s : Tu H H') : ∀ (ts : List Tm) (vs : List V), TmsIn H ts vs → TmsIn H' ts vs
  | [], _, h => h
  | t :: ts, _, ⟨v, r, e, h, q⟩ => ⟨v, r, e, TmIn.mono s t v h, TmsIn.mono s ts r q⟩
end
theorem TmIn.tu {H H' : Hp} {t : Tm} {v : V} (h : TmIn H t v) (s : Tu H H') : TmIn H' t v := TmIn.mono s t v h
theorem TmsIn.tu {H H' : Hp} {t : List Tm} {v : List V} (h : TmsIn H t v) (s : Tu H H') : TmsIn H' t v := TmsIn.mono s t v h
theorem TmsIn.length {H : Hp} : ∀ {ts : List Tm} {vs : List V}, TmsIn H ts vs → vs.length = ts.length
  | [], _, h => by cases (show _ = [] from h); rfl
  | t :: ts, _, ⟨v, r, e, _, q⟩ => by rw [e, List.length_cons, List.length_cons, TmsIn.length q]
theorem TmsIn.get {H : Hp} : ∀ {ts : List Tm} {vs : List V} {i : Nat} {v : V}, TmsIn H ts vs → vs[i]? = some v → ∃ t, ts[i]? = some t ∧ TmIn H t v
  | [], _, i, v, h, e => by cases (show _ = [] from h); simp at e
  | t :: ts, _, 0, v, ⟨w, r, rfl, h, q⟩, e => by
    have e : w = v := by simpa using e
    exact ⟨t, rfl, e ▸ h⟩
  | t :: ts, _, i + 1, v, ⟨w, r, rfl, h, q⟩, e => by
    obtain ⟨u, h1, h2⟩ := TmsIn.get (i := i) (v := v) q (by simpa using e)
    exact ⟨u, by simpa using h1, h2⟩
theorem TmsIn.get' {H : Hp} {ts : List Tm} {vs : List V} {i : Nat} {t : Tm} (h : TmsIn H ts vs) (e : ts[i]? = some t) : ∃ v, vs[i]? = some v ∧ TmIn H t v := by
  have hi : i < ts.length := (List.getElem?_eq_some_iff.mp e).1
  rw [← h.length] at hi
  obtain ⟨u, h1, h2⟩ := h.get (List.getElem?_eq_getElem hi)
  rw [e] at h1
  cases h1
  exact ⟨_, List.getElem?_eq_getElem hi, h2⟩
theorem TmsIn.append {H : Hp} : ∀ {ts us : List Tm} {vs ws : List V}, TmsIn H ts vs → TmsIn H us ws → TmsIn H (ts ++ us) (vs ++ ws)
  | [], us, vs, ws, h, q => by cases (show vs = [] from h); exact q
  | t :: ts, us, _, ws, ⟨v, r, rfl, h, k⟩, q => ⟨v, r ++ ws, rfl, h, TmsIn.append k q⟩
theorem TmsIn.one {H : Hp} {t : Tm} {v : V} (h : TmIn H t v) : TmsIn H [t] [v] := ⟨v, [], rfl, h, rfl⟩

/-! ### heaps -/
theorem same_new {H : Hp} {p : Addr} (h : H p = none) (o : HO) : Same H (upd H p o) := fun b u q => by rw [upd_ne (ne_of_none q h)]; exact q
/-- what H does not know may change -/
theorem same_mut {H H' : Hp} {p : Addr} (e : Same H H') (h : H p = none) (o : HO) : Same H (upd H' p o) := fun a u ha => by
  rw [upd_ne (ne_of_none ha h)]; exact e a u ha
theorem al_same {H H1 : Hp} {p : Addr} {o : HO} (n : H p = none) (e : upd H p o = H1) : Same H H1 := e ▸ same_new n o
theorem al_at {H H1 : Hp} {p : Addr} {o : HO} (e : upd H p o = H1) : H1 p = some o := by rw [← e]; exact upd_same
theorem al_mut {H0 H H1 : Hp} {p : Addr} {o : HO} (s : Same H0 H) (n : H0 p = none) (e : upd H p o = H1) : Same H0 H1 := e ▸ same_mut s n o
theorem al_but {H H1 : Hp} {p : Addr} {o : HO} (e : upd H p o = H1) : ∀ b u, H b = some u → b ≠ p → H1 b = some u := fun b u h n => by rw [← e, upd_ne n]; exact h
/-- all but the object at s stands as it stood -/
def But (s : Addr) (H H' : Hp) : Prop := ∀ b o, H b = some o → b ≠ s → H' b = some o
theorem But.refl (s : Addr) (H : Hp) : But s H H := fun _ _ h _ => h
theorem But.trans {s : Addr} {H H1 H2 : Hp} (a : But s H H1) (b : But s H1 H2) : But s H H2 := fun c o h n => b c o (a c o h n) n
theorem but_same {s : Addr} {H H' : Hp} (h : Same H H') : But s H H' := fun b o q _ => h b o q
theorem but_upd {s : Addr} {H : Hp} (o : HO) : But s H (upd H s o) := fun b u q n => by rw [upd_ne n]; exact q
theorem But.mut {s : Addr} {H H' : Hp} {p : Addr} (e : But s H H') (h : H p = none) (o : HO) : But s H (upd H' p o) := fun a u ha n => by
  rw [upd_ne (ne_of_none ha h)]; exact e a u ha n

/-- the list at s from which a script is drawn (what is left of a number, the numbers at l, the place, the seed) -/
def St (H : Hp) (s l : Addr) : Prop := ∃ (v at0 sd : Int) (ns : List Int), H s = some (.lst [.int v, .ref l, .int at0, .int sd]) ∧ H l = some (.lst (ns.map V.int)) ∧
  0 ≤ at0 ∧ at0 ≤ (ns.length : Int) ∧ 0 ≤ v ∧ 0 ≤ sd ∧ sd < 2147483648 ∧ ns.length ≤ 63
theorem St.ne_list {H : Hp} {s l : Addr} {ns : List Int} {v at0 sd : Int} {l' : Addr} (h : H s = some (.lst [.int v, .ref l', .int at0, .int sd])) (q : H l = some (.lst (ns.map V.int))) : l ≠ s := by
  intro e; subst e
  rw [h] at q
  injection q with q; injection q with q
  match ns, q with
  | [], q => cases q
  | [_], q => injection q with _ q; cases q
  | _ :: _ :: _, q => injection q with _ q; injection q with q _; cases q
theorem St.ne {H : Hp} {s l : Addr} (h : St H s l) : l ≠ s := by
  obtain ⟨v, a, d, ns, h1, h2, r⟩ := h
  exact St.ne_list h1 h2
theorem St.same {H H' : Hp} {s l : Addr} (h : St H s l) (b : Same H H') : St H' s l := by
  obtain ⟨v, a, d, ns, h1, h2, r⟩ := h
  exact ⟨v, a, d, ns, b _ _ h1, b _ _ h2, r⟩
theorem St.lst {H : Hp} {s l : Addr} (h : St H s l) : ∃ v a d : Int, H s = some (.lst [.int v, .ref l, .int a, .int d]) := by
  obtain ⟨v, a, d, ns, h1, _⟩ := h
  exact ⟨_, _, _, h1⟩
theorem St.nums {H : Hp} {s l : Addr} (h : St H s l) : ∃ ns : List Int, H l = some (.lst (ns.map V.int)) := by
  obtain ⟨v, a, d, ns, h1, h2, _⟩ := h
  exact ⟨_, h2⟩
theorem St.upd {H : Hp} {s l D : Addr} {o : HO} (h : St H s l) (n1 : s ≠ D) (n2 : l ≠ D) : St (upd H D o) s l := by
  obtain ⟨v, a, d, ns, h1, h2, r⟩ := h
  exact ⟨v, a, d, ns, by rw [upd_ne n1]; exact h1, by rw [upd_ne n2]; exact h2, r⟩
/-- an address that was free -/
theorem St.free {H : Hp} {s l D : Addr} (h : St H s l) (n : H D = none) : s ≠ D ∧ l ≠ D := by
  obtain ⟨v, a, d, ns, h1, h2, r⟩ := h
  exact ⟨ne_of_none h1 n, ne_of_none h2 n⟩
theorem St.but {H H' : Hp} {s l p : Addr} (h : St H s l) (b : But p H H') (n1 : s ≠ p) (n2 : l ≠ p) : St H' s l := by
  obtain ⟨v, a, d, ns, h1, h2, r⟩ := h
  exact ⟨v, a, d, ns, b _ _ h1 n1, b _ _ h2 n2, r⟩
theorem St.tu {H H' : Hp} {s l : Addr} (h : St H s l) (b : But s H H') : Tu H H' := fun a xs e => b a _ e fun z => by
  obtain ⟨_, _, _, q⟩ := h.lst
  rw [z, q] at e; cases e
/-- an object of another kind than the state's -/
theorem St.ne_tup {H : Hp} {s l a : Addr} {xs : List V} (h : St H s l) (e : H a = some (.tup xs)) : a ≠ s := fun z => by
  obtain ⟨_, _, _, q⟩ := h.lst
  rw [z, q] at e; cases e
theorem St.ne_dK {H : Hp} {s l a : Addr} {xs} (h : St H s l) (e : H a = some (.dK xs)) : a ≠ s := fun z => by
  obtain ⟨_, _, _, q⟩ := h.lst
  rw [z, q] at e; cases e

/-! ### names and operations -/
def Low (z : Str) : Prop := ∀ c ∈ z.cps.toList, 97 ≤ c ∧ c ≤ 122
/-- drawn names -/
structure Names (fs : List Str) : Prop where
  low : ∀ f ∈ fs, Low f
  lo : ∀ f ∈ fs, 1 ≤ f.length
  hi : ∀ f ∈ fs, f.length ≤ 7
  nd : fs.Nodup
/-- drawn operations at o -/
def Ops (H : Hp) (o : Addr) (fs : List Str) : Prop := Names fs ∧ (fs.length = 4 ∨ fs.length = 5) ∧ ∃ as : List Addr, H o = some (.lst (as.map V.ref)) ∧ as.length = fs.length ∧
  ∀ (k : Nat) (f : Str) (a : Addr), fs[k]? = some f → as[k]? = some a → H a = some (.tup [.str f, .int (ar k)])
theorem Ops.ne {H : Hp} {o s l : Addr} {fs : List Str} (h : Ops H o fs) (q : St H s l) : o ≠ s := by
  obtain ⟨_, hl, as, h1, h2, _⟩ := h
  obtain ⟨v, a, d, ns, e, _⟩ := q
  intro z; subst z
  rw [h1] at e
  injection e with e; injection e with e
  match as, e with
  | [], e => cases e
  | x :: _, e => injection e with e _; cases e
theorem Ops.but {H H' : Hp} {o s l : Addr} {fs : List Str} (h : Ops H o fs) (q : St H s l) (b : But s H H') : Ops H' o fs := by
  have ne := h.ne q
  obtain ⟨n, hl, as, h1, h2, h3⟩ := h
  exact ⟨n, hl, as, b _ _ h1 ne, h2, fun k f a e e' => b _ _ (h3 k f a e e') (q.ne_tup (h3 k f a e e'))⟩
theorem Ops.same {H H' : Hp} {o : Addr} {fs : List Str} (h : Ops H o fs) (b : Same H H') : Ops H' o fs := by
  obtain ⟨n, hl, as, h1, h2, h3⟩ := h
  exact ⟨n, hl, as, b _ _ h1, h2, fun k f a e e' => b _ _ (h3 k f a e e')⟩
theorem Ops.get {H : Hp} {o : Addr} {fs : List Str} (h : Ops H o fs) {k : Nat} (hk : k < fs.length) : ∃ (xs : List V) (a : Addr) (f : Str), H o = some (.lst xs) ∧ xs.length = fs.length ∧ xs[k]? = some (.ref a) ∧ fs[k]? = some f ∧ H a = some (.tup [.str f, .int (ar k)]) := by
  obtain ⟨n, hl, as, h1, h2, h3⟩ := h
  have hk' : k < as.length := by omega
  refine ⟨_, as[k], fs[k], h1, by rw [List.length_map, h2], ?_, List.getElem?_eq_getElem hk, h3 k _ _ (List.getElem?_eq_getElem hk) (List.getElem?_eq_getElem hk')⟩
  rw [List.getElem?_map, List.getElem?_eq_getElem hk']; rfl

/-! ### rules whose readings name the written part -/
def rLenS (K : PySem.W.Frag) : List V → Hp → VK → Prop := fun xs H Q => ∃ p ys, xs = [.ref p] ∧ (SqL K H p ys ∨ SqT K H p ys) ∧ Q (.int ys.length) H
def rListS (K : PySem.W.Frag) : List V → Hp → VK → Prop := fun xs H Q => ∃ p ys, xs = [.ref p] ∧ (SqL K H p ys ∨ SqT K H p ys) ∧ ∀ l, H l = none → Q (.ref l) (upd H l (.lst ys))
def rTupS (K : PySem.W.Frag) : List V → Hp → VK → Prop := fun xs H Q => ∃ p ys, xs = [.ref p] ∧ ((SqL K H p ys ∧ ∀ l, H l = none → Q (.ref l) (upd H l (.tup ys))) ∨ (SqT K H p ys ∧ Q (.ref p) H))
section
variable {X : Cx}
theorem j_len : CallR X (.builtin "len") (rLenS X.K) := call_len_seq
theorem j_list : CallR X (.type "list") (rListS X.K) := call_list_of
theorem j_tuple : CallR X (.type "tuple") (rTupS X.K) := call_tuple_of
end
/-! ### two ways meet again ahead of the rest -/
theorem seq_join {t u : TS} {D : Ends} {σ : L2.St} {H : Hp} (I : L2.St → Hp → Prop) (h2 : ∀ σ' H', I σ' H' → u D σ' H') (h1 : ∀ N : L2.St → Hp → Prop, (∀ σ' H', I σ' H' → N σ' H') → t { D with nx := N } σ H) : tSeq t u D σ H := h1 (u D) h2
theorem int_of {i j : Int} (h : (V.bl (decide (i = j))) = .bl true) : i = j := by
  injection h with h; exact of_decide_eq_true h
theorem fmod_0 {a m : Int} (h : 1 ≤ m) : 0 ≤ a.fmod m := by
  rw [Int.fmod_eq_emod_of_nonneg _ (by omega)]; exact Int.emod_nonneg _ (by omega)
theorem fmod_lt {a m : Int} (h : 1 ≤ m) : a.fmod m < m := by
  rw [Int.fmod_eq_emod_of_nonneg _ (by omega)]; exact Int.emod_lt_of_pos _ (by omega)
theorem at_int {ns : List Int} {k : Int} (h0 : 0 ≤ k) (h : k < (ns.length : Int)) : ∃ n, atI (ns.map V.int) k = some (.int n) := by
  have hk : k.toNat < ns.length := by omega
  have q : atI (ns.map V.int) ((k.toNat : Nat) : Int) = some (.int ns[k.toNat]) := atI_nat (by rw [List.getElem?_map, List.getElem?_eq_getElem hk]; rfl)
  rw [Int.toNat_of_nonneg h0] at q
  exact ⟨_, q⟩
theorem at_get {xs : List V} {k : Int} {v : V} (h0 : 0 ≤ k) (h : xs[k.toNat]? = some v) : atI xs k = some v := by
  have q : atI xs ((k.toNat : Nat) : Int) = some v := atI_nat h
  rw [Int.toNat_of_nonneg h0] at q
  exact q
/-! ### contracts that nothing meets -/
theorem fn_none {P : Program} {w : World} {K : PySem.W.Frag} {mg : Str → Option Value} {base : Heap} {CX : CXT} {f : Addr} {fd : FuncData} {ps : List Str} {sp : Sp} {k : Nat} (no : ∀ vs H Q E, ¬ sp vs H Q E) : FnOk P w K mg base CX k f fd ps sp :=
  ⟨fun vs H Q E h => absurd h (no vs H Q E), fun _ _ _ _ _ _ vs Q E _ _ _ _ h => absurd h (no vs _ Q E)⟩
end J
/-! ### isinstance, slices of terms -/
namespace J
open PySem L2
section
variable {K : PySem.W.Frag} {H : Hp} {Q : VK}
theorem isi {x : V} {n m : String} {b : Bool} (ty : TyX K H x (.type n)) (h : kitB n m = some b) (q : Q (.bl b) H) : rIsi K [x, .ty m] H Q := ⟨x, .ty m, .type n, .type m, b, rfl, .ty m, ty, kit_ty h, q⟩
theorem isi_int {i : Int} {m : String} {b : Bool} (h : kitB "int" m = some b) (q : Q (.bl b) H) : rIsi K [.int i, .ty m] H Q := isi (.base (.int i)) h q
theorem isi_str {x : Str} {m : String} {b : Bool} (h : kitB "str" m = some b) (q : Q (.bl b) H) : rIsi K [.str x, .ty m] H Q := isi (.base (.str x)) h q
theorem isi_tup {a : Addr} {xs : List V} {m : String} {b : Bool} (e : H a = some (.tup xs)) (h : kitB "tuple" m = some b) (q : Q (.bl b) H) : rIsi K [.ref a, .ty m] H Q := isi (.base (.tup e)) h q
theorem isi_lst {a : Addr} {xs : List V} {m : String} {b : Bool} (e : H a = some (.lst xs)) (h : kitB "list" m = some b) (q : Q (.bl b) H) : rIsi K [.ref a, .ty m] H Q := isi (.base (.lst e)) h q
theorem isi_dK {a : Addr} {xs} {m : String} {b : Bool} (e : H a = some (.dK xs)) (h : kitB "dict" m = some b) (q : Q (.bl b) H) : rIsi K [.ref a, .ty m] H Q := isi (.base (.dK e)) h q
theorem isi_bl {i : Bool} {m : String} {b : Bool} (h : kitB "bool" m = some b) (q : Q (.bl b) H) : rIsi K [.bl i, .ty m] H Q := isi (.base (.bl i)) h q
end
theorem cut1 (x : V) (vs : List V) : cutV (x :: vs) (some 1) none = vs := by
  unfold cutV
  have e1 : HT.sIx (x :: vs).length 0 (some 1) = 1 := by
    show min 1 (vs.length + 1) = 1
    omega
  have e2 : HT.sIx (x :: vs).length (x :: vs).length none = vs.length + 1 := rfl
  rw [e1, e2]
  simp
theorem sl1c (x : V) (vs : List V) : ¬ (HT.sIx (x :: vs).length 0 (some 1) = 0 ∧ HT.sIx (x :: vs).length (x :: vs).length none = (x :: vs).length) := by
  intro ⟨z, _⟩
  have e1 : HT.sIx (x :: vs).length 0 (some 1) = 1 := by
    show min 1 (vs.length + 1) = 1
    omega
  rw [e1] at z; cases z
theorem at_zero {x : V} {xs : List V} : atI (x :: xs) 0 = some x := atI_nat (j := 0) rfl
/-- t[1:] of an application -/
theorem sl1 {K : PySem.W.Frag} {H : Hp} {Q : VK} {a : Addr} {x : V} {vs : List V} (h : H a = some (.tup (x :: vs))) (q : ∀ p, H p = none → Q (.ref p) (upd H p (.tup vs))) : rSlT K (.ref a) (some 1) none H Q := by
  refine ⟨a, _, rfl, SqT.of h, ?_, ?_⟩
  · intro ⟨z, _⟩
    have e1 : HT.sIx (x :: vs).length 0 (some 1) = 1 := by
      show min 1 (vs.length + 1) = 1
      omega
    rw [e1] at z; cases z
  · rw [cut1]; exact q
theorem But.same {s : Addr} {H H' : Hp} (b : But s H H') {H0 : Hp} (k : Same H0 H) (n : H0 s = none) : Same H0 H' := fun a o e => b a o (k a o e) (ne_of_none e n)
theorem But.upd {s : Addr} {H H' : Hp} (b : But s H H') (o : HO) : But s H (upd H' s o) := b.trans (but_upd o)
theorem but_tu {s : Addr} {H H' : Hp} (b : But s H H') (h : ∀ xs, H s ≠ some (.tup xs)) : Tu H H' := fun a xs e => b a _ e fun z => by
  rw [z] at e; exact h _ e
theorem lst_not_tup {H : Hp} {p : Addr} {ys : List V} (h : H p = some (.lst ys)) : ∀ xs, H p ≠ some (.tup xs) := fun xs e => by
  rw [h] at e; cases e
theorem TmIn.dep_arg {f : Str} {ts : List Tm} {t : Tm} {N : Nat} (h : (Tm.app f ts).dep ≤ N + 1) (m : t ∈ ts) : t.dep ≤ N := by
  have h : 1 + Tm.deps ts ≤ N + 1 := h
  have := Tm.dep_of_mem m
  omega
theorem Tm.len_le : ∀ ts : List Tm, ts.length ≤ Tm.szs ts
  | [] => Nat.le_refl _
  | u :: us => by
    have h1 := u.sz_pos
    have h2 := Tm.len_le us
    show us.length + 1 ≤ u.sz + Tm.szs us
    omega
theorem Tm.sz_arg : ∀ {ts : List Tm} {t : Tm}, t ∈ ts → t.sz ≤ Tm.szs ts
  | u :: us, t, h => by
    show t.sz ≤ u.sz + Tm.szs us
    rcases List.mem_cons.mp h with e | h
    · rw [e]; omega
    · have := Tm.sz_arg h; omega
end J
/-! ### tests by their meaning -/
namespace J
open PySem L2
theorem ifD {p : Prop} [Decidable p] {A B : Prop} (h1 : p → A) (h2 : ¬ p → B) : if decide p = true then A else B := ite2 (fun e => h1 (of_decide_eq_true e)) fun e => h2 fun z => e (decide_eq_true z)
theorem ifN {p : Prop} [Decidable p] {A B : Prop} (h1 : ¬ p → A) (h2 : p → B) : if (!decide p) = true then A else B := by
  by_cases h : p
  · rw [decide_eq_true h]; exact h2 h
  · rw [decide_eq_false h]; exact h1 h
theorem ifEq {i j : Int} {A B : Prop} (h1 : i = j → A) (h2 : i ≠ j → B) : if decide (V.int i = V.int j) = true then A else B := ifD (fun e => h1 (by injection e)) fun e => h2 fun z => e (by rw [z])
theorem ifNe {i j : Int} {A B : Prop} (h1 : i ≠ j → A) (h2 : i = j → B) : if (!decide (V.int i = V.int j)) = true then A else B := ifN (fun e => h1 fun z => e (by rw [z])) fun e => h2 (by injection e)
theorem ifEqS {i j : Str} {A B : Prop} (h1 : i = j → A) (h2 : i ≠ j → B) : if decide (V.str i = V.str j) = true then A else B := ifD (fun e => h1 (by injection e)) fun e => h2 fun z => e (by rw [z])
theorem ifNeS {i j : Str} {A B : Prop} (h1 : i ≠ j → A) (h2 : i = j → B) : if (!decide (V.str i = V.str j)) = true then A else B := ifN (fun e => h1 fun z => e (by rw [z])) fun e => h2 (by injection e)
theorem ifB {b : Bool} {A B : Prop} (h1 : b = true → A) (h2 : b = false → B) : if b = true then A else B := ite2 h1 fun e => h2 (by cases b; rfl; exact absurd rfl e)
theorem ifNB {b : Bool} {A B : Prop} (h1 : b = false → A) (h2 : b = true → B) : if (!b) = true then A else B := by
  cases b with
  | true => exact h2 rfl
  | false => exact h1 rfl
theorem list_take_succ {α : Type} {l : List α} {i : Nat} {x : α} (h : l[i]? = some x) : l.take (i + 1) = l.take i ++ [x] := by
  rw [List.take_succ, h]; rfl
end J
namespace J
open PySem L2
mutual
theorem Tm.wf_mono {fs : List Str} {B B' : Int} (h : B ≤ B') : ∀ t : Tm, t.wf fs B → t.wf fs B'
  | .var n, w => by
    have w : 0 ≤ n ∧ n < B := w
    exact ⟨w.1, by omega⟩
  | .app f ts, w => ⟨w.1, Tm.wfs_mono h ts w.2⟩
theorem Tm.wfs_mono {fs : List Str} {B B' : Int} (h : B ≤ B') : ∀ ts : List Tm, Tm.wfs fs B ts → Tm.wfs fs B' ts
  | [], _ => True.intro
  | t :: ts, w => ⟨Tm.wf_mono h t w.1, Tm.wfs_mono h ts w.2⟩
end
theorem Tm.wf.mono {fs : List Str} {B B' : Int} {t : Tm} (w : t.wf fs B) (h : B ≤ B') : t.wf fs B' := Tm.wf_mono h t w
end J

/-! ### texts as lists of signs -/
namespace J
open PySem L2

theorem len_tl (x : Str) : x.length = x.cps.toList.length := by
  show x.cps.size = _
  rw [Array.length_toList]
theorem tl_inj {x y : Str} (h : x.cps.toList = y.cps.toList) : x = y := by
  cases x; cases y
  exact congrArg Str.mk (Array.toList_inj.mp h)
theorem tl_app (x y : Str) : (x ++ y).cps.toList = x.cps.toList ++ y.cps.toList := TL.tl_append x y
theorem len_app (x y : Str) : (x ++ y).length = x.length + y.length := by
  rw [len_tl, tl_app, List.length_append, ← len_tl, ← len_tl]
/-- texts joined by nothing -/
theorem join0 : ∀ zs : List Str, (Txt.join "" zs).cps.toList = (zs.map fun z => z.cps.toList).flatten := by
  intro zs
  rw [TL.join_eq]
  show TL.tl (Str.join "" zs) = _
  rw [TL.tl_join]
  have e : TL.tl ("" : Str) = [] := rfl
  rw [e]
  induction zs with
  | nil => rfl
  | cons a r ih =>
    cases r with
    | nil => simp [TL.joinL]
    | cons b r => 
      show TL.tl a ++ ([] ++ TL.joinL [] (TL.tl b :: r.map TL.tl)) = _
      rw [List.nil_append, List.map_cons, List.flatten_cons, ← ih]
      rfl
theorem abc : ∀ k : Nat, k < 26 → ("abcdefghijklmnopqrstuvwxyz" : Str).cps.toList[k]? = some (97 + k) := by decide +kernel
theorem abc_at {r : Int} (h0 : 0 ≤ r) (h1 : r < 26) : atI ("abcdefghijklmnopqrstuvwxyz" : Str).cps.toList r = some (97 + r.toNat) := by
  have q := atI_nat (abc r.toNat (by omega))
  rw [Int.toNat_of_nonneg h0] at q
  exact q
theorem low_one {k : Nat} (h : k < 26) : Low ⟨#[97 + k]⟩ := fun c hc => by
  have hc : c ∈ [97 + k] := hc
  rw [List.mem_singleton] at hc
  omega
theorem low_app {x y : Str} (a : Low x) (b : Low y) : Low (x ++ y) := fun c hc => by
  rw [tl_app] at hc
  rcases List.mem_append.mp hc with h | h
  · exact a c h
  · exact b c h
theorem join_low {zs : List Str} (h : ∀ z ∈ zs, z.length = 1 ∧ Low z) : (Txt.join "" zs).length = zs.length ∧ Low (Txt.join "" zs) := by
  refine ⟨?_, fun c hc => ?_⟩
  · rw [len_tl, join0]
    induction zs with
    | nil => rfl
    | cons a r ih =>
      rw [List.map_cons, List.flatten_cons, List.length_append, ih fun z hz => h z (List.mem_cons_of_mem _ hz), ← len_tl, (h a (List.mem_cons_self ..)).1, List.length_cons]
      omega
  · rw [join0] at hc
    obtain ⟨l, hl, hc⟩ := List.mem_flatten.mp hc
    obtain ⟨z, hz, rfl⟩ := List.mem_map.mp hl
    exact (h z hz).2 c hc
theorem sum_ones {zs : List Str} (h : ∀ z ∈ zs, z.length = 1) : (zs.map (·.length)).sum = zs.length := by
  induction zs with
  | nil => rfl
  | cons a r ih =>
    rw [List.map_cons, List.sum_cons, ih fun z hz => h z (List.mem_cons_of_mem _ hz), h a (List.mem_cons_self ..), List.length_cons]
    omega
/-- the k-th drawn name -/
def nameAt (b e : Str) (f : Nat) (k : Nat) : Str := b ++ (⟨#[97 + (f + 3 * k) % 26]⟩ : Str) ++ e
theorem nameAt_len (b e : Str) (f k : Nat) : (nameAt b e f k).length = b.length + 1 + e.length := by
  unfold nameAt; rw [len_app, len_app]; rfl
theorem nameAt_low {b e : Str} (hb : Low b) (he : Low e) (f k : Nat) : Low (nameAt b e f k) := low_app (low_app hb (low_one (Nat.mod_lt _ (by decide)))) he
theorem nameAt_inj {b e : Str} {f i j : Nat} (hi : i < 26) (hj : j < 26) (h : nameAt b e f i = nameAt b e f j) : i = j := by
  have h1 : (nameAt b e f i).cps.toList = (nameAt b e f j).cps.toList := by rw [h]
  unfold nameAt at h1
  rw [tl_app, tl_app, tl_app, tl_app] at h1
  have h2 := List.append_cancel_right h1
  have h3 := List.append_cancel_left h2
  have h4 : 97 + (f + 3 * i) % 26 = 97 + (f + 3 * j) % 26 := by
    have h3 : [97 + (f + 3 * i) % 26] = [97 + (f + 3 * j) % 26] := h3
    injection h3
  omega
theorem names_ok {b e : Str} {f m : Nat} (hb : Low b) (he : Low e) (lb : b.length ≤ 3) (le : e.length ≤ 3) (hm : m ≤ 26) : Names ((List.range m).map (nameAt b e f)) := by
  refine ⟨fun x hx => ?_, fun x hx => ?_, fun x hx => ?_, ?_⟩
  · obtain ⟨k, _, rfl⟩ := List.mem_map.mp hx
    exact nameAt_low hb he f k
  · obtain ⟨k, _, rfl⟩ := List.mem_map.mp hx
    rw [nameAt_len]; omega
  · obtain ⟨k, _, rfl⟩ := List.mem_map.mp hx
    rw [nameAt_len]; omega
  · refine List.nodup_iff_pairwise_ne.mpr (List.pairwise_map.mpr ?_)
    refine (List.nodup_iff_pairwise_ne.mp List.nodup_range).imp_of_mem ?_
    intro i j hi hj ne h
    exact ne (nameAt_inj (by have := List.mem_range.mp hi; omega) (by have := List.mem_range.mp hj; omega) h)
end J

/-! ### written terms -/
namespace J
open PySem L2
mutual
def wr : Tm → Str
  | .var n => ("x" : Str) ++ (toString n : String)
  | .app f [] => f
  | .app f (t :: ts) => f ++ ("(" : Str) ++ Txt.join (", " : Str) (wr t :: wrs ts) ++ (")" : Str)
def wrs : List Tm → List Str
  | [] => []
  | t :: ts => wr t :: wrs ts
end
theorem wrs_map : ∀ ts : List Tm, wrs ts = ts.map wr
  | [] => rfl
  | t :: ts => by show wr t :: wrs ts = _; rw [wrs_map ts]; rfl
theorem wr_app (f : Str) (ts : List Tm) (h : ts ≠ []) : wr (.app f ts) = f ++ ("(" : Str) ++ Txt.join (", " : Str) (ts.map wr) ++ (")" : Str) := by
  match ts, h with
  | t :: ts, _ => 
    show f ++ ("(" : Str) ++ Txt.join (", " : Str) (wr t :: wrs ts) ++ (")" : Str) = _
    rw [wrs_map]; rfl
theorem join_len (s : Str) : ∀ zs : List Str, (Txt.join s zs).length ≤ (zs.map (·.length)).sum + zs.length * s.length := by
  intro zs
  rw [TL.join_eq, len_tl]
  show (TL.tl (Str.join s zs)).length ≤ _
  rw [TL.tl_join]
  induction zs with
  | nil => exact Nat.zero_le _
  | cons a r ih =>
    cases r with
    | nil =>
      show (TL.tl a).length ≤ _
      rw [← len_tl, List.map_cons, List.sum_cons]
      omega
    | cons b r =>
      show (TL.tl a ++ (TL.tl s ++ TL.joinL (TL.tl s) ((b :: r).map TL.tl))).length ≤ _
      have e : ((a :: b :: r).map (·.length)).sum + (a :: b :: r).length * s.length = a.length + (s.length + (((b :: r).map (·.length)).sum + (b :: r).length * s.length)) := by
        rw [List.map_cons (l := b :: r), List.sum_cons, List.length_cons (as := b :: r), Nat.add_mul, Nat.one_mul]
        omega
      rw [e, List.length_append, List.length_append, ← len_tl, ← len_tl]
      omega
theorem num_len {n : Int} (h0 : 0 ≤ n) (h1 : n < 1000) : (Str.ofString (toString n)).length ≤ 3 := by
  obtain ⟨k, rfl⟩ := Int.eq_ofNat_of_zero_le h0
  have hk : k < 1000 := by omega
  have q : ∀ k : Nat, k < 1000 → (Str.ofString (toString ((k : Nat) : Int))).length ≤ 3 := by decide +kernel
  exact q k hk
mutual
theorem wr_len {fs : List Str} {B : Int} (hn : Names fs) (hB : B ≤ 1000) : ∀ t : Tm, t.wf fs B → (wr t).length + 2 ≤ 14 * t.sz
  | .var n, w => by
    have w : 0 ≤ n ∧ n < B := w
    have q := num_len w.1 (by omega)
    show (("x" : Str) ++ (Str.ofString (toString n))).length + 2 ≤ 14 * 1
    rw [len_app]
    show 1 + _ + 2 ≤ _
    omega
  | .app f [], w => by
    obtain ⟨⟨k, hk, _⟩, _⟩ := w
    have := hn.hi f (List.mem_of_getElem? hk)
    show f.length + 2 ≤ 14 * (1 + 0)
    omega
  | .app f (t :: ts), w => by
    obtain ⟨⟨k, hk, _⟩, w⟩ := w
    have h1 := hn.hi f (List.mem_of_getElem? hk)
    have h2 := wrs_len hn hB (t :: ts) w
    have h3 := join_len (", " : Str) (wrs (t :: ts))
    have h4 : (", " : Str).length = 2 := by decide +kernel
    show (f ++ ("(" : Str) ++ Txt.join (", " : Str) (wrs (t :: ts)) ++ (")" : Str)).length + 2 ≤ 14 * (1 + Tm.szs (t :: ts))
    rw [len_app, len_app, len_app]
    rw [h4] at h3
    show f.length + 1 + _ + 1 + 2 ≤ _
    omega
theorem wrs_len {fs : List Str} {B : Int} (hn : Names fs) (hB : B ≤ 1000) : ∀ ts : List Tm, Tm.wfs fs B ts → ((wrs ts).map (·.length)).sum + (wrs ts).length * 2 ≤ 14 * Tm.szs ts
  | [], _ => by show 0 + 0 * 2 ≤ _; omega
  | t :: ts, w => by
    have h1 := wr_len hn hB t w.1
    have h2 := wrs_len hn hB ts w.2
    show (wr t).length + ((wrs ts).map (·.length)).sum + ((wrs ts).length + 1) * 2 ≤ 14 * (t.sz + Tm.szs ts)
    omega
end
end J

/-! ### tokens of a text -/
namespace J
open PySem L2
abbrev cods (z : Str) : List Nat := z.cps.toList
inductive Tk where
  | nm (f : Str)
  | vr (n : Nat)
  | sg (c : Nat)
  | bd (z : Str) (w : Bool)
def Tk.txt : Tk → Str
  | .nm f => f
  | .vr n => ("x" : Str) ++ (toString ((n : Nat) : Int) : String)
  | .sg c => ⟨#[c]⟩
  | .bd z _ => z
def Tk.kd : Tk → Str
  | .nm _ => "name"
  | .vr _ => "variable"
  | .sg c => ⟨#[c]⟩
  | .bd _ _ => "unreadable"
def Tk.isW : Tk → Bool
  | .sg _ => false
  | .bd _ w => w
  | _ => true
/-- words that are neither a name nor a variable -/
def badW : List Str := ["x20", "x01", "x123", "A", "aB", "a1", "abcdefghi", "0", "1x", "xx1", "x0a"]
def Tk.Ok : Tk → Prop
  | .nm f => Low f ∧ 1 ≤ f.length ∧ f.length ≤ 8
  | .vr n => n < 20
  | .sg c => c ∈ [40, 41, 44, 61]
  | .bd z true => z ∈ badW
  | .bd z false => ∃ c ∈ [33, 95, 43, 38], z = ⟨#[c]⟩
abbrev wordS : Str := "abcdefghijklmnopqrstuvwxyzABCDEFGHIJKLMNOPQRSTUVWXYZ0123456789"
abbrev signS : Str := "(),="
theorem word_low : ∀ k : Fin 26, 97 + k.val ∈ cods wordS := by decide +kernel
theorem word_var : ∀ n : Fin 20, (∀ c ∈ cods (Tk.txt (.vr n.val)), c ∈ cods wordS) ∧ 2 ≤ (Tk.txt (.vr n.val)).length ∧ (Tk.txt (.vr n.val)).length ≤ 3 := by decide +kernel
theorem sign_no : ∀ c ∈ [40, 41, 44, 61, 32, 33, 95, 43, 38], c ∉ cods wordS := by decide +kernel
theorem bad_no : ∀ c ∈ [33, 95, 43, 38], c ∉ cods signS ∧ c ≠ 32 := by decide +kernel
theorem badW_word : ∀ z ∈ badW, (∀ c ∈ cods z, c ∈ cods wordS) ∧ 1 ≤ z.length ∧ z.length ≤ 9 := by decide +kernel
theorem sign_in : cods signS = [40, 41, 44, 61] := by decide +kernel
theorem tk_word {t : Tk} (o : t.Ok) (w : t.isW = true) : (∀ c ∈ cods t.txt, c ∈ cods wordS) ∧ 1 ≤ t.txt.length ∧ t.txt.length ≤ 9 := by
  cases t with
  | nm f =>
    obtain ⟨h1, h2, h3⟩ := o
    refine ⟨fun c hc => ?_, h2, Nat.le_trans h3 (by decide)⟩
    have := h1 c hc
    have q := word_low ⟨c - 97, by omega⟩
    rw [show 97 + (c - 97) = c by omega] at q
    exact q
  | vr n =>
    obtain ⟨h1, h2, h3⟩ := word_var ⟨n, o⟩
    exact ⟨h1, by have : 2 ≤ (Tk.vr n).txt.length := h2; omega, by have : (Tk.vr n).txt.length ≤ 3 := h3; omega⟩
  | sg c => cases w
  | bd z w' =>
    cases w' with
    | true => exact badW_word z o
    | false => cases w
/-- a text as tokens and single blanks -/
def lay : List (Option Tk) → List Nat
  | [] => []
  | none :: P => 32 :: lay P
  | some t :: P => cods t.txt ++ lay P
theorem lay_app : ∀ P R : List (Option Tk), lay (P ++ R) = lay P ++ lay R
  | [], _ => rfl
  | none :: P, R => congrArg (32 :: ·) (lay_app P R)
  | some t :: P, R => by show cods t.txt ++ lay (P ++ R) = (cods t.txt ++ lay P) ++ lay R; rw [lay_app P R, List.append_assoc]
def Sep : List (Option Tk) → Prop
  | [] => True
  | none :: P => Sep P
  | some t :: P => (t.isW = true → ∀ b, P.head? = some (some b) → b.isW = false) ∧ Sep P
def Oks (P : List (Option Tk)) : Prop := ∀ t, some t ∈ P → t.Ok
structure Rw where
  kd : Str
  wd : Str
  ix : Nat
def rowsOf : Nat → List (Option Tk) → List Rw
  | n, [] => [⟨"end", "", n⟩]
  | n, none :: P => rowsOf (n + 1) P
  | n, some t :: P => ⟨t.kd, t.txt, n⟩ :: rowsOf (n + t.txt.length) P
/-- what the rows say, without the places -/
def Rw.kw (r : Rw) : Str × Str := (r.kd, r.wd)
def Tk.kw (t : Tk) : Str × Str := (t.kd, t.txt)
theorem rows_kw : ∀ (P : List (Option Tk)) (n : Nat), (rowsOf n P).map Rw.kw = (P.filterMap id).map Tk.kw ++ [(("end" : Str), ("" : Str))]
  | [], _ => rfl
  | none :: P, n => rows_kw P (n + 1)
  | some t :: P, n => by
    show (t.kd, t.txt) :: (rowsOf (n + t.txt.length) P).map Rw.kw = _
    rw [rows_kw P]; rfl
def RwIn (H : Hp) (w : V) (r : Rw) : Prop := ∃ a : Addr, w = .ref a ∧ H a = some (.tup [.str r.kd, .str r.wd, .int (r.ix : Int)])
theorem RwIn.tu {H H' : Hp} {w : V} {r : Rw} (h : RwIn H w r) (t : Tu H H') : RwIn H' w r := let ⟨a, e, q⟩ := h; ⟨a, e, t _ _ q⟩
def RwsIn (H : Hp) (ws : List V) (rs : List Rw) : Prop := ws.length = rs.length ∧ ∀ (i : Nat) (w : V) (r : Rw), ws[i]? = some w → rs[i]? = some r → RwIn H w r
theorem RwsIn.tu {H H' : Hp} {ws : List V} {rs : List Rw} (h : RwsIn H ws rs) (t : Tu H H') : RwsIn H' ws rs := ⟨h.1, fun i w r a b => (h.2 i w r a b).tu t⟩
theorem RwsIn.snoc {H : Hp} {ws : List V} {rs : List Rw} {w : V} {r : Rw} (h : RwsIn H ws rs) (g : RwIn H w r) : RwsIn H (ws ++ [w]) (rs ++ [r]) := by
  refine ⟨by rw [List.length_append, List.length_append, h.1]; rfl, fun i v y a b => ?_⟩
  by_cases c : i < ws.length
  · rw [List.getElem?_append_left c] at a
    rw [List.getElem?_append_left (by rw [← h.1]; exact c)] at b
    exact h.2 i v y a b
  · rw [List.getElem?_append_right (by omega)] at a
    rw [List.getElem?_append_right (by rw [← h.1]; omega), ← h.1] at b
    have hi := (List.getElem?_eq_some_iff.mp a).1
    have e0 : i - ws.length = 0 := by
      have : i - ws.length < 1 := hi
      omega
    rw [e0] at a b
    cases a; cases b
    exact g
theorem RwsIn.get {H : Hp} {ws : List V} {rs : List Rw} {i : Nat} {r : Rw} (h : RwsIn H ws rs) (g : rs[i]? = some r) : ∃ w, ws[i]? = some w ∧ RwIn H w r := by
  have hi := (List.getElem?_eq_some_iff.mp g).1
  have gw := List.getElem?_eq_getElem (l := ws) (i := i) (by rw [h.1]; exact hi)
  exact ⟨_, gw, h.2 i _ r gw g⟩
/-! tokens of a term -/
mutual
def tkl : Tm → List Tk
  | .var n => [.vr n.toNat]
  | .app f [] => [.nm f]
  | .app f (t :: ts) => .nm f :: .sg 40 :: (tkl t ++ tkls ts)
def tkls : List Tm → List Tk
  | [] => [.sg 41]
  | t :: ts => .sg 44 :: (tkl t ++ tkls ts)
end
def NoAdj : List Tk → Prop
  | [] => True
  | t :: T => (t.isW = true → ∀ b, T.head? = some b → b.isW = false) ∧ NoAdj T
/-- what follows begins with no word -/
def NoW (T : List Tk) : Prop := ∀ b, T.head? = some b → b.isW = false
theorem noW_tkls (ts : List Tm) (R : List Tk) : NoW (tkls ts ++ R) := by
  intro b hb
  cases ts with
  | nil => cases (show some (Tk.sg 41) = some b from hb); rfl
  | cons t ts => cases (show some (Tk.sg 44) = some b from hb); rfl
mutual
theorem noAdj_tkl : ∀ (t : Tm) (R : List Tk), NoW R → NoAdj R → NoAdj (tkl t ++ R)
  | .var n, R, h, g => ⟨fun _ b hb => h b hb, g⟩
  | .app f [], R, h, g => ⟨fun _ b hb => h b hb, g⟩
  | .app f (t :: ts), R, h, g => by
    show NoAdj (.nm f :: .sg 40 :: ((tkl t ++ tkls ts) ++ R))
    refine ⟨fun _ b hb => (by cases hb; rfl), fun z => (nomatch z), ?_⟩
    rw [List.append_assoc]
    exact noAdj_tkl t _ (noW_tkls ts R) (noAdj_tkls ts R h g)
theorem noAdj_tkls : ∀ (ts : List Tm) (R : List Tk), NoW R → NoAdj R → NoAdj (tkls ts ++ R)
  | [], R, h, g => ⟨fun z => (nomatch z), g⟩
  | t :: ts, R, h, g => by
    show NoAdj (.sg 44 :: ((tkl t ++ tkls ts) ++ R))
    refine ⟨fun z => (nomatch z), ?_⟩
    rw [List.append_assoc]
    exact noAdj_tkl t _ (noW_tkls ts R) (noAdj_tkls ts R h g)
end
theorem sep_of : ∀ P : List (Option Tk), NoAdj (P.filterMap id) → Sep P
  | [], _ => trivial
  | none :: P, h => sep_of P h
  | some t :: P, h => by
    have h : NoAdj (t :: P.filterMap id) := h
    refine ⟨fun w b hb => h.1 w b ?_, sep_of P h.2⟩
    cases P with
    | nil => cases hb
    | cons o P => cases (show some o = some (some b) from hb); rfl
mutual
theorem tkl_ok {fs : List Str} (hn : Names fs) : ∀ t : Tm, t.wf fs 20 → ∀ k ∈ tkl t, k.Ok
  | .var n, w, k, hk => by
    have w : 0 ≤ n ∧ n < 20 := w
    rw [List.mem_singleton.mp (show k ∈ [Tk.vr n.toNat] from hk)]
    show n.toNat < 20
    omega
  | .app f [], w, k, hk => by
    rw [List.mem_singleton.mp (show k ∈ [Tk.nm f] from hk)]
    obtain ⟨⟨i, hi, _⟩, _⟩ := w
    have m := List.mem_of_getElem? hi
    exact ⟨hn.low f m, hn.lo f m, Nat.le_trans (hn.hi f m) (by decide)⟩
  | .app f (t :: ts), w, k, hk => by
    obtain ⟨⟨i, hi, _⟩, w⟩ := w
    have m := List.mem_of_getElem? hi
    rcases List.mem_cons.mp (show k ∈ Tk.nm f :: Tk.sg 40 :: (tkl t ++ tkls ts) from hk) with e | hk
    · rw [e]; exact ⟨hn.low f m, hn.lo f m, Nat.le_trans (hn.hi f m) (by decide)⟩
    · rcases List.mem_cons.mp hk with e | hk
      · rw [e]; exact List.mem_cons_self ..
      · rcases List.mem_append.mp hk with hk | hk
        · exact tkl_ok hn t w.1 k hk
        · exact tkls_ok hn ts w.2 k hk
theorem tkls_ok {fs : List Str} (hn : Names fs) : ∀ ts : List Tm, Tm.wfs fs 20 ts → ∀ k ∈ tkls ts, k.Ok
  | [], _, k, hk => by
    rw [List.mem_singleton.mp (show k ∈ [Tk.sg 41] from hk)]
    show 41 ∈ [40, 41, 44, 61]
    decide
  | t :: ts, w, k, hk => by
    rcases List.mem_cons.mp (show k ∈ Tk.sg 44 :: (tkl t ++ tkls ts) from hk) with e | hk
    · rw [e]; show 44 ∈ [40, 41, 44, 61]; decide
    · rcases List.mem_append.mp hk with hk | hk
      · exact tkl_ok hn t w.1 k hk
      · exact tkls_ok hn ts w.2 k hk
end
/-! the written form -/
mutual
def wps : Tm → List (Option Tk)
  | .var n => [some (.vr n.toNat)]
  | .app f [] => [some (.nm f)]
  | .app f (t :: ts) => some (.nm f) :: some (.sg 40) :: (wps t ++ wpss ts)
def wpss : List Tm → List (Option Tk)
  | [] => [some (.sg 41)]
  | t :: ts => some (.sg 44) :: none :: (wps t ++ wpss ts)
end
mutual
theorem wps_tk : ∀ t : Tm, (wps t).filterMap id = tkl t
  | .var _ => rfl
  | .app _ [] => rfl
  | .app f (t :: ts) => by
    show Tk.nm f :: Tk.sg 40 :: (wps t ++ wpss ts).filterMap id = _
    rw [List.filterMap_append, wps_tk t, wpss_tk ts]; rfl
theorem wpss_tk : ∀ ts : List Tm, (wpss ts).filterMap id = tkls ts
  | [] => rfl
  | t :: ts => by
    show Tk.sg 44 :: (wps t ++ wpss ts).filterMap id = _
    rw [List.filterMap_append, wps_tk t, wpss_tk ts]; rfl
end
def joinR : List Str → List Nat
  | [] => [41]
  | z :: zs => 44 :: 32 :: (cods z ++ joinR zs)
theorem join_cods (s : Str) : ∀ (z : Str) (zs : List Str), s = (", " : Str) → cods (Txt.join s (z :: zs)) ++ [41] = cods z ++ joinR zs
  | z, [], e => by
    rw [TL.join_eq]
    show TL.tl (Str.join s [z]) ++ [41] = _
    rw [TL.tl_join]; rfl
  | z, y :: zs, e => by
    have ih := join_cods s y zs e
    rw [TL.join_eq] at ih ⊢
    have ih : TL.tl (Str.join s (y :: zs)) ++ [41] = cods y ++ joinR zs := ih
    rw [TL.tl_join] at ih
    show TL.tl (Str.join s (z :: y :: zs)) ++ [41] = _
    rw [TL.tl_join]
    show (TL.tl z ++ (TL.tl s ++ TL.joinL (TL.tl s) ((y :: zs).map TL.tl))) ++ [41] = cods z ++ (44 :: 32 :: (cods y ++ joinR zs))
    rw [← ih, e, show TL.tl (", " : Str) = [44, 32] from by decide +kernel, List.append_assoc]
    rfl
mutual
theorem lay_wps {fs : List Str} : ∀ t : Tm, t.wf fs 20 → lay (wps t) = cods (wr t)
  | .var n, w => by
    have w : 0 ≤ n ∧ n < 20 := w
    obtain ⟨k, rfl⟩ := Int.eq_ofNat_of_zero_le w.1
    show cods (Tk.txt (.vr k)) ++ [] = _
    rw [List.append_nil]; rfl
  | .app f [], w => by
    show cods f ++ [] = _
    rw [List.append_nil]; rfl
  | .app f (t :: ts), w => by
    have e1 := lay_wps t w.2.1
    have e2 := lay_wpss ts w.2.2
    show cods f ++ (cods (Tk.txt (.sg 40)) ++ lay (wps t ++ wpss ts)) = cods (f ++ ("(" : Str) ++ Txt.join (", " : Str) (wr t :: wrs ts) ++ (")" : Str))
    unfold cods
    rw [tl_app, tl_app, tl_app, lay_app, e1, e2, List.append_assoc, List.append_assoc]
    have := join_cods (", " : Str) (wr t) (wrs ts) rfl
    unfold cods at this
    rw [show ((")" : String) : Str).cps.toList = [41] by decide +kernel, this, show (("(" : String) : Str).cps.toList = [40] by decide +kernel]
    rfl
theorem lay_wpss {fs : List Str} : ∀ ts : List Tm, Tm.wfs fs 20 ts → lay (wpss ts) = joinR (wrs ts)
  | [], _ => rfl
  | t :: ts, w => by
    show 44 :: 32 :: lay (wps t ++ wpss ts) = 44 :: 32 :: (cods (wr t) ++ joinR (wrs ts))
    rw [lay_app, lay_wps t w.1, lay_wpss ts w.2]
end
end J
namespace J
open PySem L2
/-! text * number -/
def rMulS : R2 := fun x y H Q => ∃ (z : Str) (k : Nat), x = .str z ∧ y = .int (k : Int) ∧ k ≤ 1000 ∧ z.length ≤ 1000 ∧ Q (.str (Txt.mul z (k : Int))) H
theorem mulOk_small {z : Str} {k : Nat} (hk : k ≤ 1000) (hz : z.length ≤ 1000) : MulOk z (k : Int) := by
  refine ⟨?_, fun h1 _ => ?_, fun h1 _ => ?_⟩
  · rw [decide_eq_false (by omega), decide_eq_false (by omega)]; rfl
  · have h1 : ¬ (k : Int) < 1 := h1
    have : (2 ^ 63 - 1 : Int) / (k : Int) ≥ 1000 := by
      rw [ge_iff_le, Int.le_ediv_iff_mul_le (by omega)]
      omega
    omega
  · have : z.length * k ≤ 1000 * 1000 := Nat.mul_le_mul hz hk
    have e : ((k : Int)).toNat = k := rfl
    rw [e]
    exact decide_eq_false (fun h => absurd (show 2 ^ 24 < z.length * k from h) (by omega))
theorem op_mulS {X : Cx} : OpR X (binaryOp .Mult) rMulS := by
  intro pins s σ H x y v u Q I rx ry h
  obtain ⟨z, k, rfl, rfl, hk, hz, q⟩ := h
  obtain ⟨t, rfl⟩ := rx
  obtain ⟨t', rfl⟩ := ry
  exact SB.mul (mulOk_small hk hz) (fun t' tk => ⟨.str (Txt.mul z (k : Int)), H, I.tok _, ⟨_, rfl⟩, q⟩)
theorem mul_blank : ∀ k : Fin 4, cods (Txt.mul (" " : Str) ((k.val : Nat) : Int)) = List.replicate k.val 32 := by decide +kernel
end J
namespace J
open PySem L2
/-! the fields of the reader of tokens -/
theorem tk_ne {f g : Str} {v y : V} {r : List (Str × V)} (h : ¬ g = f) : putF f y ((g, v) :: r) = (g, v) :: putF f y r := if_neg h
theorem tk_flds2 (a b : V) : putF ("_at" : Str) b [(("_rows" : Str), a)] = [(("_rows" : Str), a), (("_at" : Str), b)] := by rw [tk_ne (by decide +kernel)]; rfl
theorem tk_put (a b c : V) : putF ("_at" : Str) c [(("_rows" : Str), a), (("_at" : Str), b)] = [(("_rows" : Str), a), (("_at" : Str), c)] := by rw [tk_ne (by decide +kernel)]; exact congrArg (List.cons _) (if_pos rfl)
theorem tk_rows (a b : V) : ([(("_rows" : Str), a), (("_at" : Str), b)] : List (Str × V)).lookup ("_rows" : Str) = some a := by
  rw [List.lookup_cons, show ((("_rows" : Str) == ("_rows" : Str)) = true) by decide +kernel]
theorem tk_at (a b : V) : ([(("_rows" : Str), a), (("_at" : Str), b)] : List (Str × V)).lookup ("_at" : Str) = some b := by
  rw [List.lookup_cons, show ((("_at" : Str) == ("_rows" : Str)) = false) by decide +kernel]
  show List.lookup _ _ = _
  rw [List.lookup_cons, show ((("_at" : Str) == ("_at" : Str)) = true) by decide +kernel]
theorem tk_no {m : Str} (a b : V) (h1 : (m == ("_rows" : Str)) = false) (h2 : (m == ("_at" : Str)) = false) : ([(("_rows" : Str), a), (("_at" : Str), b)] : List (Str × V)).lookup m = none := by
  rw [List.lookup_cons, h1]
  show List.lookup _ _ = _
  rw [List.lookup_cons, h2]; rfl
theorem var_no_low : ∀ n : Fin 20, ∃ c ∈ cods (Tk.txt (.vr n.val)), c < 97 := by decide +kernel
theorem low_not {n : Nat} (h : n < 20) : ¬ Low (Tk.txt (.vr n)) := fun z => by
  obtain ⟨c, hc, lt⟩ := var_no_low ⟨n, h⟩
  have := z c hc
  omega
end J
namespace J
open PySem L2
theorem inV_strs (n : Str) : ∀ l : List Str, inV (.str n) (l.map V.str) = decide (n ∈ l) := by
  intro l
  unfold inV
  rw [List.any_map]
  refine Bool.eq_iff_iff.mpr ?_
  rw [List.any_eq_true, decide_eq_true_iff]
  constructor
  · rintro ⟨x, hx, e⟩
    have e : (x == n) = true := e
    rw [← eq_of_beq e]; exact hx
  · intro h
    exact ⟨n, h, beq_self_eq_true n⟩
/-! the word of a variable -/
theorem var_word : ∀ n : Fin 20, let z := Tk.txt (.vr n.val); let d := cutS z (some 1) none
    z.cps[0]? = some 120 ∧ Txt.isdigit d = true ∧ d.length ≤ 2 ∧ PySem.intText? d = some (n.val : Int) ∧ Str.ofString (toString ((n.val : Nat) : Int)) = d := by decide +kernel
end J
namespace J
open PySem L2
theorem abc_in (c : Nat) (h : c ∈ cods ("abcdefghijklmnopqrstuvwxyz" : Str)) : 97 ≤ c ∧ c ≤ 122 := by
  have q : ∀ c ∈ cods ("abcdefghijklmnopqrstuvwxyz" : Str), 97 ≤ c ∧ c ≤ 122 := by decide +kernel
  exact q c h
theorem abc_of (c : Nat) (h : 97 ≤ c ∧ c ≤ 122) : c ∈ cods ("abcdefghijklmnopqrstuvwxyz" : Str) := by
  have q : ∀ k : Fin 26, 97 + k.val ∈ cods ("abcdefghijklmnopqrstuvwxyz" : Str) := by decide +kernel
  have := q ⟨c - 97, by omega⟩
  rw [show 97 + (c - 97) = c by omega] at this
  exact this
end J
namespace J
open PySem L2
theorem cut_mid {z w : Str} {pre suf : List Nat} (h : cods z = pre ++ (cods w ++ suf)) : cutS z (some ((pre.length : Nat) : Int)) (some ((pre.length + w.length : Nat) : Int)) = w := by
  have zl : z.length = (cods z).length := len_tl z
  have wl : w.length = (cods w).length := len_tl w
  rw [h, List.length_append, List.length_append] at zl
  unfold cutS
  rw [HT.sIx_nat, HT.sIx_nat, Nat.min_eq_left (by omega), Nat.min_eq_left (by omega)]
  refine tl_inj ?_
  show ((cods z).drop pre.length).take (pre.length + w.length - pre.length) = cods w
  rw [h, List.drop_left' rfl, Nat.add_sub_cancel_left, wl, List.take_left' rfl]
/-- what stands behind a word is no word's sign -/
theorem behind {P : List (Option Tk)} {t : Tk} (hw : t.isW = true) (hs : Sep (some t :: P)) (ok : ∀ t, some t ∈ P → t.Ok) : ∀ c, (lay P)[0]? = some c → c ∈ [40, 41, 44, 61, 32, 33, 95, 43, 38] := by
  intro c hc
  cases P with
  | nil => cases hc
  | cons o P =>
    cases o with
    | none => cases (show some 32 = some c from hc); decide
    | some b =>
      have nb := hs.1 hw b rfl
      have okb := ok b (List.mem_cons_self ..)
      cases b with
      | nm f => cases nb
      | vr n => cases nb
      | sg d =>
        have e : d = c := Option.some.inj hc
        subst e
        have m : d ∈ [40, 41, 44, 61] := okb
        simp at m ⊢
        omega
      | bd z w' =>
        cases w' with
        | true => cases nb
        | false =>
          obtain ⟨d, md, rfl⟩ := okb
          have e : d = c := Option.some.inj hc
          subst e
          simp at md ⊢
          omega
end J
namespace J
open PySem L2
theorem lay_nil {P : List (Option Tk)} (ok : ∀ t, some t ∈ P → t.Ok) (h : (lay P).length = 0) : P = [] := by
  cases P with
  | nil => rfl
  | cons o P =>
    exfalso
    cases o with
    | none => cases h
    | some t =>
      have okt := ok t (List.mem_cons_self ..)
      have h : (cods t.txt ++ lay P).length = 0 := h
      rw [List.length_append, ← len_tl] at h
      have : 1 ≤ t.txt.length := by
        cases t with
        | nm f => exact okt.2.1
        | vr n => exact (tk_word (t := .vr n) okt rfl).2.1
        | sg c => exact Nat.le_refl 1
        | bd z w' =>
          cases w' with
          | true => exact (badW_word z okt).2.1
          | false => obtain ⟨d, _, rfl⟩ := okt; exact Nat.le_refl 1
      omega
end J
namespace J
open PySem L2
theorem kw_head {rs : List Rw} {i : Nat} {k w : Str} {L : List (Str × Str)} (h : (rs.drop i).map Rw.kw = (k, w) :: L) : ∃ x, rs[i]? = some x ∧ x.kd = k ∧ x.wd = w ∧ (rs.drop (i + 1)).map Rw.kw = L := by
  cases e : rs.drop i with
  | nil => rw [e] at h; cases h
  | cons x l =>
    rw [e] at h
    have h : x.kw :: l.map Rw.kw = (k, w) :: L := h
    injection h with h1 h2
    have hi : i < rs.length := by
      by_cases c : i < rs.length
      · exact c
      · rw [List.drop_of_length_le (by omega)] at e; cases e
    rw [List.drop_eq_getElem_cons hi] at e
    injection e with e1 e2
    have h1 : (x.kd, x.wd) = (k, w) := h1
    injection h1 with h3 h4
    exact ⟨x, by rw [List.getElem?_eq_getElem hi, e1], h3, h4, by rw [e2]; exact h2⟩
/-- what follows does not begin with an opening bracket -/
def HeadNot (R : List (Str × Str)) : Prop := ∃ k w R', R = (k, w) :: R' ∧ k ≠ ("(" : Str)
theorem headNot_tkls (ts : List Tm) (R : List (Str × Str)) : HeadNot ((tkls ts).map Tk.kw ++ R) := by
  cases ts with
  | nil => exact ⟨_, _, _, rfl, by decide +kernel⟩
  | cons t ts => exact ⟨_, _, _, rfl, by decide +kernel⟩
theorem headNot_tkl (t : Tm) (R : List (Str × Str)) : True := trivial
def TkAt (C : Addr) (H : Hp) (p dx r : Addr) (i : Nat) (ws : List V) (rs : List Rw) : Prop := H p = some (.ins C dx [("_rows", .ref r), ("_at", .int (i : Int))]) ∧ H r = some (.lst ws) ∧ RwsIn H ws rs ∧ r ≠ p
theorem TkAt.same {C : Addr} {H H' : Hp} {p dx r : Addr} {i : Nat} {ws : List V} {rs : List Rw} (h : TkAt C H p dx r i ws rs) (s : Same H H') : TkAt C H' p dx r i ws rs := ⟨s _ _ h.1, s _ _ h.2.1, h.2.2.1.tu (tu_same s), h.2.2.2⟩
theorem ins_tu {C : Addr} {H H' : Hp} {p dx : Addr} {fs : List (Str × V)} (hp : H p = some (.ins C dx fs)) (b : But p H H') : Tu H H' := fun a xs e => b _ _ e fun z => by rw [z, hp] at e; cases e
theorem TkAt.but {C : Addr} {H H' : Hp} {p dx r : Addr} {i j : Nat} {ws : List V} {rs : List Rw} (h : TkAt C H p dx r i ws rs) (b : But p H H') (e : H' p = some (.ins C dx [("_rows", .ref r), ("_at", .int (j : Int))])) : TkAt C H' p dx r j ws rs :=
  ⟨e, b _ _ h.2.1 h.2.2.2, h.2.2.1.tu (ins_tu h.1 b), h.2.2.2⟩
end J
namespace J
open PySem L2
theorem kw_drop {rs : List Rw} {i : Nat} {T : List Tk} {R : List (Str × Str)} (h : (rs.drop i).map Rw.kw = T.map Tk.kw ++ R) : (rs.drop (i + T.length)).map Rw.kw = R := by
  rw [← List.drop_drop, List.map_drop, h, List.drop_left' (List.length_map _)]
end J
namespace J
open PySem L2
/-! tokens as the law lists them -/
def tkb : List Tm → List Tk
  | [] => []
  | t :: ts => .sg 44 :: (tkl t ++ tkb ts)
def tka : List Tm → List Tk
  | [] => []
  | t :: ts => tkl t ++ tkb ts
theorem tkls_tkb : ∀ ts : List Tm, tkls ts = tkb ts ++ [.sg 41]
  | [] => rfl
  | t :: ts => by
    show Tk.sg 44 :: (tkl t ++ tkls ts) = (Tk.sg 44 :: (tkl t ++ tkb ts)) ++ [.sg 41]
    rw [tkls_tkb ts, List.cons_append, List.append_assoc]
theorem tkb_app : ∀ (ts us : List Tm), tkb (ts ++ us) = tkb ts ++ tkb us
  | [], _ => rfl
  | t :: ts, us => by
    show Tk.sg 44 :: (tkl t ++ tkb (ts ++ us)) = (Tk.sg 44 :: (tkl t ++ tkb ts)) ++ tkb us
    rw [tkb_app ts us, List.cons_append, List.append_assoc]
theorem tkl_tka {f : Str} {ts : List Tm} (h : ts ≠ []) : tkl (.app f ts) = .nm f :: .sg 40 :: (tka ts ++ [.sg 41]) := by
  match ts, h with
  | t :: ts, _ =>
    show Tk.nm f :: Tk.sg 40 :: (tkl t ++ tkls ts) = Tk.nm f :: Tk.sg 40 :: ((tkl t ++ tkb ts) ++ [.sg 41])
    rw [tkls_tkb, List.append_assoc]
theorem tka_snoc {ts : List Tm} {t : Tm} : tka (ts ++ [t]) = tka ts ++ ((if ts = [] then [] else [Tk.sg 44]) ++ tkl t) := by
  cases ts with
  | nil => show tkl t ++ [] = [] ++ ([] ++ tkl t); simp
  | cons u us =>
    rw [if_neg (fun z => nomatch z)]
    show tkl u ++ tkb (us ++ [t]) = (tkl u ++ tkb us) ++ ([Tk.sg 44] ++ tkl t)
    rw [tkb_app, List.append_assoc]
    show _ ++ (_ ++ (Tk.sg 44 :: (tkl t ++ []))) = _
    rw [List.append_nil]; rfl
mutual
theorem tkl_len : ∀ t : Tm, (tkl t).length + 1 ≤ 3 * t.sz
  | .var _ => by show 1 + 1 ≤ 3 * 1; omega
  | .app _ [] => by show 1 + 1 ≤ 3 * (1 + 0); omega
  | .app f (t :: ts) => by
    have h1 := tkl_len t
    have h2 := tkls_len ts
    show (tkl t ++ tkls ts).length + 1 + 1 + 1 ≤ 3 * (1 + (t.sz + Tm.szs ts))
    rw [List.length_append]; omega
theorem tkls_len : ∀ ts : List Tm, (tkls ts).length ≤ 3 * Tm.szs ts + 1
  | [] => Nat.le_refl 1
  | t :: ts => by
    have h1 := tkl_len t
    have h2 := tkls_len ts
    have h3 := t.sz_pos
    show (tkl t ++ tkls ts).length + 1 ≤ 3 * (t.sz + Tm.szs ts) + 1
    rw [List.length_append]
    omega
end
end J
namespace J
open PySem L2
theorem tkb_len : ∀ ts : List Tm, (tkb ts).length ≤ 3 * Tm.szs ts
  | [] => Nat.le_refl 0
  | t :: ts => by
    have h1 := tkl_len t
    have h2 := tkb_len ts
    show (tkl t ++ tkb ts).length + 1 ≤ 3 * (t.sz + Tm.szs ts)
    rw [List.length_append]; omega
theorem tka_len (ts : List Tm) : (tka ts).length ≤ 3 * Tm.szs ts := by
  cases ts with
  | nil => exact Nat.zero_le _
  | cons t ts =>
    have h1 := tkl_len t
    have h2 := tkb_len ts
    show (tkl t ++ tkb ts).length ≤ 3 * (t.sz + Tm.szs ts)
    rw [List.length_append]; omega
end J
namespace J
open PySem L2
def chkW (z : Str) : Nat :=
  let d := cutS z (some 1) none
  if z.cps[0]? ≠ some 120 then 0 else if Txt.isdigit d = false then 1 else if 2 < d.length then 2 else
    match PySem.intText? d with
    | some n => if 19 < n then 3 else if Str.ofString (toString n) ≠ d ∧ n.natAbs < 100 then 4 else 5
    | none => 5
theorem badW_chk : ∀ z ∈ badW, chkW z ≠ 5 ∧ ¬ (1 ≤ z.length ∧ z.length ≤ 8 ∧ ∀ c ∈ cods z, 97 ≤ c ∧ c ≤ 122) := by decide +kernel
end J
namespace J
open PySem L2
/-- kinds that no term goes on with -/
def BadK (k : Str) : Prop := k ∉ [("name" : Str), "variable", "(", ",", ")"]
/-- the reader at i: tokens T, behind them the row x -/
def At (rs : List Rw) (i : Nat) (T : List Tk) (x : Rw) : Prop := ∃ R, (rs.drop i).map Rw.kw = T.map Tk.kw ++ x.kw :: R ∧ rs[i + T.length]? = some x
theorem At.nil {rs : List Rw} {i : Nat} {x : Rw} (h : At rs i [] x) : rs[i]? = some x := h.elim fun _ h => h.2
theorem At.cons {rs : List Rw} {i : Nat} {t : Tk} {T : List Tk} {x : Rw} (h : At rs i (t :: T) x) : (∃ y, rs[i]? = some y ∧ y.kd = t.kd ∧ y.wd = t.txt) ∧ At rs (i + 1) T x := by
  obtain ⟨R, h1, h2⟩ := h
  obtain ⟨y, g, e1, e2, h3⟩ := kw_head (k := t.kd) (w := t.txt) (L := T.map Tk.kw ++ x.kw :: R) h1
  exact ⟨⟨y, g, e1, e2⟩, R, h3, by rw [← h2, List.length_cons]; congr 1; omega⟩
theorem At.drop {rs : List Rw} {i : Nat} {T U : List Tk} {x : Rw} (h : At rs i (T ++ U) x) : At rs (i + T.length) U x := by
  obtain ⟨R, h1, h2⟩ := h
  rw [List.map_append, List.append_assoc] at h1
  exact ⟨R, kw_drop h1, by rw [← h2, List.length_append]; congr 1; omega⟩
/-- a proper prefix -/
def Pre (T W : List Tk) : Prop := ∃ S, S ≠ [] ∧ T ++ S = W
theorem pre_cons {t w : Tk} {T W : List Tk} (h : Pre (t :: T) (w :: W)) : t = w ∧ Pre T W := by
  obtain ⟨S, n, e⟩ := h
  injection e with e1 e2
  exact ⟨e1, S, n, e2⟩
theorem pre_app {W V : List Tk} : ∀ {T : List Tk}, Pre T (W ++ V) → Pre T W ∨ ∃ U, T = W ++ U ∧ Pre U V := by
  intro T
  rintro ⟨S, n, e⟩
  rcases List.append_eq_append_iff.mp e with ⟨a, e1, e2⟩ | ⟨a, e1, e2⟩
  · by_cases z : a = []
    · subst z
      rw [List.append_nil] at e1
      exact .inr ⟨[], by rw [e1, List.append_nil], S, n, e2⟩
    · exact .inl ⟨a, z, e1.symm⟩
  · exact .inr ⟨a, e1, S, n, e2.symm⟩
end J
namespace J
open PySem L2
theorem BadK.nv {k : Str} (h : BadK k) : k ∉ [("name" : Str), "variable"] := fun m => h (by
  rcases List.mem_cons.mp m with e | m
  · rw [e]; exact List.mem_cons_self ..
  · rw [List.mem_singleton.mp m]; exact List.mem_cons_of_mem _ (List.mem_cons_self ..))
theorem BadK.op {k : Str} (h : BadK k) : k ≠ ("(" : Str) := fun e => h (by rw [e]; exact List.mem_cons_of_mem _ (List.mem_cons_of_mem _ (List.mem_cons_self ..)))
theorem BadK.cm {k : Str} (h : BadK k) : k ≠ ("," : Str) := fun e => h (by rw [e]; exact List.mem_cons_of_mem _ (List.mem_cons_of_mem _ (List.mem_cons_of_mem _ (List.mem_cons_self ..))))
theorem BadK.cl {k : Str} (h : BadK k) : k ∉ [(")" : Str)] := fun m => h (by rw [List.mem_singleton.mp m]; exact List.mem_cons_of_mem _ (List.mem_cons_of_mem _ (List.mem_cons_of_mem _ (List.mem_cons_of_mem _ (List.mem_cons_self ..)))))
end J
namespace J
open PySem L2
theorem pre_irr {T : List Tk} (h : Pre T T) : False := by
  obtain ⟨S, n, e⟩ := h
  exact n (List.append_right_eq_self.mp e)
theorem At.pre {rs : List Rw} {i : Nat} {T U : List Tk} {x : Rw} (h : At rs i (T ++ U) x) : ∃ x0, At rs i T x0 ∧ ((U = [] ∧ x0 = x) ∨ ∃ u U', U = u :: U' ∧ x0.kd = u.kd) := by
  cases U with
  | nil => rw [List.append_nil] at h; exact ⟨x, h, .inl ⟨rfl, rfl⟩⟩
  | cons u U =>
    obtain ⟨⟨y, g, e1, e2⟩, _⟩ := h.drop.cons
    obtain ⟨R, h1, _⟩ := h
    refine ⟨y, ⟨U.map Tk.kw ++ x.kw :: R, ?_, g⟩, .inr ⟨u, U, rfl, e1⟩⟩
    rw [h1, List.map_append, List.append_assoc]
    show _ ++ (u.kw :: _) = _ ++ (y.kw :: _)
    rw [show u.kw = y.kw from Prod.ext e1.symm e2.symm]; rfl
theorem tkls_head {ts : List Tm} {u : Tk} {U : List Tk} (h : u :: U = tkls ts ∨ Pre (u :: U) (tkls ts)) : u.kd ≠ ("(" : Str) := by
  cases ts with
  | nil =>
    have e : u = .sg 41 := by
      rcases h with h | h
      · exact (List.cons.inj h).1
      · exact (pre_cons (w := .sg 41) (W := []) h).1
    rw [e]; decide +kernel
  | cons t ts =>
    have e : u = .sg 44 := by
      rcases h with h | h
      · exact (List.cons.inj h).1
      · exact (pre_cons (w := .sg 44) (W := tkl t ++ tkls ts) h).1
    rw [e]; decide +kernel
theorem split_at {rs : List Rw} {i : Nat} {W : List Tk} {t : Tm} {ts : List Tm} {x : Rw} (ha : At rs i W x) (md : (W = tkl t ++ tkls ts ∧ x.kd ≠ ("(" : Str)) ∨ (Pre W (tkl t ++ tkls ts) ∧ BadK x.kd)) :
    ∃ (T0 : List Tk) (x0 : Rw) (U : List Tk), At rs i T0 x0 ∧ ((T0 = tkl t ∧ x0.kd ≠ ("(" : Str)) ∨ (Pre T0 (tkl t) ∧ BadK x0.kd)) ∧ At rs (i + T0.length) U x ∧ T0.length + U.length = W.length ∧
      ((T0 = tkl t ∧ U = tkls ts ∧ W = tkl t ++ tkls ts ∧ x.kd ≠ ("(" : Str)) ∨ (Pre W (tkl t ++ tkls ts) ∧ BadK x.kd ∧ (Pre U (tkls ts) ∨ U = []))) ∧ (Pre T0 (tkl t) → Pre W (tkl t ++ tkls ts) ∧ x0 = x) := by
  have go : ∀ U : List Tk, W = tkl t ++ U → (U = tkls ts ∨ Pre U (tkls ts)) → (U = [] → BadK x.kd) → ∃ x0, At rs i (tkl t) x0 ∧ x0.kd ≠ ("(" : Str) ∧ At rs (i + (tkl t).length) U x := fun U e hu hb => by
    rw [e] at ha
    obtain ⟨x0, h0, hx⟩ := ha.pre
    refine ⟨x0, h0, ?_, ha.drop⟩
    rcases hx with ⟨e1, e2⟩ | ⟨u, U', e1, e2⟩
    · rw [e2]; exact (hb e1).op
    · rw [e2]
      rw [e1] at hu
      exact tkls_head hu
  rcases md with ⟨e, nk⟩ | ⟨hp, hb⟩
  · obtain ⟨x0, h0, n0, hU⟩ := go (tkls ts) e (.inl rfl) (fun z => by cases ts <;> cases z)
    exact ⟨tkl t, x0, tkls ts, h0, .inl ⟨rfl, n0⟩, hU, by rw [e, List.length_append], .inl ⟨rfl, rfl, e, nk⟩, fun z => (pre_irr z).elim⟩
  · rcases pre_app hp with h | ⟨U, e, h⟩
    · exact ⟨W, x, [], ha, .inr ⟨h, hb⟩, At.drop (U := []) (by rw [List.append_nil]; exact ha), rfl, .inr ⟨hp, hb, .inr rfl⟩, fun _ => ⟨hp, rfl⟩⟩
    · obtain ⟨x0, h0, n0, hU⟩ := go U e (.inr h) fun _ => hb
      exact ⟨tkl t, x0, U, h0, .inl ⟨rfl, n0⟩, hU, by rw [e, List.length_append], .inr ⟨hp, hb, .inl h⟩, fun z => (pre_irr z).elim⟩
end J
namespace J
open PySem L2
/-- the first row of what is left -/
def hdRow (C : List (Option Tk)) (m : Nat) : Rw := match C with
  | some u :: _ => ⟨u.kd, u.txt, m⟩
  | _ => ⟨"end", "", m⟩
theorem lay_len_some (t : Tk) (A : List (Option Tk)) : (lay (some t :: A)).length = t.txt.length + (lay A).length := by
  show (cods t.txt ++ lay A).length = _
  rw [List.length_append]; rfl
theorem rows_split : ∀ (A C : List (Option Tk)) (n : Nat), ∃ pre : List Rw, rowsOf n (A ++ C) = pre ++ rowsOf (n + (lay A).length) C ∧ pre.map Rw.kw = (A.filterMap id).map Tk.kw
  | [], _, _ => ⟨[], rfl, rfl⟩
  | none :: A, C, n => by
    obtain ⟨pre, e1, e2⟩ := rows_split A C (n + 1)
    refine ⟨pre, ?_, e2⟩
    show rowsOf (n + 1) (A ++ C) = pre ++ rowsOf (n + ((lay A).length + 1)) C
    rw [e1, show n + 1 + (lay A).length = n + ((lay A).length + 1) by omega]
  | some t :: A, C, n => by
    obtain ⟨pre, e1, e2⟩ := rows_split A C (n + t.txt.length)
    refine ⟨⟨t.kd, t.txt, n⟩ :: pre, ?_, ?_⟩
    · show ⟨t.kd, t.txt, n⟩ :: rowsOf (n + t.txt.length) (A ++ C) = ⟨t.kd, t.txt, n⟩ :: (pre ++ rowsOf (n + (lay (some t :: A)).length) C)
      rw [e1, lay_len_some, show n + t.txt.length + (lay A).length = n + (t.txt.length + (lay A).length) by omega]
    · show (t.kd, t.txt) :: pre.map Rw.kw = _
      rw [e2]; rfl
theorem rows_at (A C : List (Option Tk)) (h : C.head? ≠ some none) : At (rowsOf 0 (A ++ C)) 0 (A.filterMap id) (hdRow C (lay A).length) := by
  obtain ⟨pre, e1, e2⟩ := rows_split A C 0
  rw [Nat.zero_add] at e1
  have el : pre.length = (A.filterMap id).length := by
    have := congrArg List.length e2
    rw [List.length_map, List.length_map] at this
    exact this
  have hr : ∃ R, rowsOf (lay A).length C = hdRow C (lay A).length :: R := by
    cases C with
    | nil => exact ⟨[], rfl⟩
    | cons o C =>
      cases o with
      | none => exact absurd rfl h
      | some u => exact ⟨_, rfl⟩
  obtain ⟨R, hr⟩ := hr
  refine ⟨R.map Rw.kw, ?_, ?_⟩
  · rw [List.drop_zero, e1, hr, List.map_append, e2]; rfl
  · rw [e1, hr, Nat.zero_add, ← el, List.getElem?_append_right (Nat.le_refl _), Nat.sub_self]; rfl
end J
namespace J
open PySem L2
/-- where the reader of a term stops -/
def Stop (T : List Tk) (t : Tm) (k : Str) : Prop := (T = tkl t ∧ k ≠ ("(" : Str) ∧ k ≠ ("end" : Str)) ∨ (Pre T (tkl t) ∧ BadK k ∧ (k ≠ ("end" : Str) ∨ ∀ f, T ≠ [.nm f]))
end J
namespace J
open PySem L2
theorem sep_app : ∀ {A B : List (Option Tk)}, Sep A → Sep B → (∀ b, B.head? = some (some b) → b.isW = false) → Sep (A ++ B)
  | [], _, _, hB, _ => hB
  | none :: A, B, hA, hB, hb => sep_app (A := A) hA hB hb
  | some t :: A, B, hA, hB, hb => by
    refine ⟨fun w b e => ?_, sep_app (A := A) hA.2 hB hb⟩
    cases A with
    | nil => exact hb b e
    | cons o A => exact hA.1 w b e
theorem sep_blanks : ∀ k : Nat, Sep (List.replicate k none)
  | 0 => trivial
  | k + 1 => sep_blanks k
theorem noAdj_take : ∀ (n : Nat) {T : List Tk}, NoAdj T → NoAdj (T.take n)
  | 0, _, _ => trivial
  | _ + 1, [], _ => trivial
  | n + 1, t :: T, h => by
    refine ⟨fun w b e => h.1 w b ?_, noAdj_take n h.2⟩
    cases T with
    | nil => rw [List.take_nil] at e; cases e
    | cons u T => cases n with
      | zero => cases e
      | succ n => exact e
theorem noAdj_drop : ∀ (n : Nat) {T : List Tk}, NoAdj T → NoAdj (T.drop n)
  | 0, _, h => h
  | _ + 1, [], _ => trivial
  | n + 1, _ :: _, h => noAdj_drop n h.2
theorem noAdj_tm (t : Tm) : NoAdj (tkl t) := by
  have := noAdj_tkl t [] (fun b hb => nomatch hb) trivial
  rw [List.append_nil] at this
  exact this
theorem tkl_4 (t : Tm) : (∃ k, tkl t = [k] ∧ k.isW = true) ∨ 4 ≤ (tkl t).length := by
  cases t with
  | var n => exact .inl ⟨_, rfl, rfl⟩
  | app f ts =>
    cases ts with
    | nil => exact .inl ⟨_, rfl, rfl⟩
    | cons t ts =>
      refine .inr ?_
      have h1 : 1 ≤ (tkl t).length := by
        cases t with
        | var n => exact Nat.le_refl 1
        | app g us => cases us with
          | nil => exact Nat.le_refl 1
          | cons u us => show 1 ≤ (tkl u ++ tkls us).length + 1 + 1; omega
      have h2 : 1 ≤ (tkls ts).length := by
        cases ts with
        | nil => exact Nat.le_refl 1
        | cons u us => show 1 ≤ (tkl u ++ tkls us).length + 1; omega
      show 4 ≤ (tkl t ++ tkls ts).length + 1 + 1
      rw [List.length_append]
      omega
def badAll : List Str := ["!", "_", "x20", "x01", "x123", "A", "aB", "a1", "abcdefghi", "0", "+", "&", "1x", "xx1", "x0a"]
theorem badAll_ok : ∀ z ∈ badAll, ∃ w, (Tk.bd z w).Ok := by
  have q : ∀ z ∈ badAll, z ∈ badW ∨ ∃ c ∈ [33, 95, 43, 38], z = (⟨#[c]⟩ : Str) := by decide +kernel
  intro z hz
  rcases q z hz with h | h
  · exact ⟨true, h⟩
  · exact ⟨false, h⟩
theorem bad_unread : BadK ("unreadable" : Str) ∧ ("unreadable" : Str) ≠ "(" ∧ ("unreadable" : Str) ≠ "end" ∧ BadK ("end" : Str) ∧ ("end" : Str) ≠ "(" ∧ ("end" : Str) ≠ "=" := by unfold BadK; decide +kernel
def extras : List Tk := [.sg 41, .sg 44, .nm "a", .vr 0]
theorem extras_kd : (extras.map fun x => x.kd) = [(")" : Str), ",", "name", "variable"] := by decide +kernel
theorem extras_ok (i : Fin 4) : ∃ x, extras[i.val]? = some x ∧ x.kd ≠ ("(" : Str) ∧ x.kd ≠ ("end" : Str) := by
  have hi : i.val < extras.length := i.isLt
  refine ⟨_, List.getElem?_eq_getElem hi, ?_⟩
  have m : (extras[i.val]).kd ∈ (extras.map fun x => x.kd) := List.mem_map.mpr ⟨_, List.getElem_mem hi, rfl⟩
  rw [extras_kd] at m
  have q : ∀ k ∈ [(")" : Str), ",", "name", "variable"], k ≠ ("(" : Str) ∧ k ≠ ("end" : Str) := by decide +kernel
  exact q _ m
theorem extra_mem {x : Tk} (h : x ∈ extras) : x.Ok := by
  have h : x ∈ [Tk.sg 41, .sg 44, .nm "a", .vr 0] := h
  rcases List.mem_cons.mp h with e | h
  · rw [e]; show 41 ∈ [40, 41, 44, 61]; decide
  · rcases List.mem_cons.mp h with e | h
    · rw [e]; show 44 ∈ [40, 41, 44, 61]; decide
    · rcases List.mem_cons.mp h with e | h
      · rw [e]; show Low ("a" : Str) ∧ 1 ≤ ("a" : Str).length ∧ ("a" : Str).length ≤ 8; exact ⟨by unfold Low; decide +kernel, by decide +kernel, by decide +kernel⟩
      · rw [List.mem_singleton.mp h]; show 0 < 20; decide
end J
namespace J
open PySem L2
theorem tkcut_from (xs : List V) (f : Nat) (h : f ≤ xs.length) : cutV xs (some (f : Int)) none = xs.drop f := by
  unfold cutV
  rw [HT.sIx_nat, HT.sIx_none, Nat.min_eq_left h]
  exact List.take_of_length_le (by rw [List.length_drop]; exact Nat.le_refl _)
theorem tkcut_to (xs : List V) (f : Nat) (h : f ≤ xs.length) : cutV xs none (some (f : Int)) = xs.take f := by
  unfold cutV
  rw [HT.sIx_none, HT.sIx_nat, Nat.min_eq_left h]; rfl
theorem blank_cods : cods (" " : Str) = [32] := by decide +kernel
theorem cods_app (x y : Str) : cods (x ++ y) = cods x ++ cods y := tl_app x y
theorem cods_len (x : Str) : x.length = (cods x).length := len_tl x
end J

/-! ### symbols, variables, substitutions -/
namespace J
open PySem L2
mutual
def syms : Tm → List V
  | .var n => [.int n]
  | .app f ts => .str f :: symss ts
def symss : List Tm → List V
  | [] => []
  | t :: ts => syms t ++ symss ts
end
mutual
/-- the occurrences of variables, from left to right -/
def occ : Tm → List Int
  | .var n => [n]
  | .app _ ts => occs ts
def occs : List Tm → List Int
  | [] => []
  | t :: ts => occ t ++ occs ts
end
/-- one by one, what is not there yet -/
def adds (acc : List Int) : List Int → List Int
  | [] => acc
  | n :: r => adds (if n ∈ acc then acc else acc ++ [n]) r
def vars (t : Tm) : List Int := adds [] (occ t)
theorem adds_app : ∀ (l1 l2 acc : List Int), adds acc (l1 ++ l2) = adds (adds acc l1) l2
  | [], _, _ => rfl
  | n :: r, l2, acc => by show adds _ (r ++ l2) = adds (adds _ r) l2; rw [adds_app r l2]
theorem adds_mem : ∀ (l acc : List Int) {n : Int}, n ∈ adds acc l ↔ n ∈ acc ∨ n ∈ l
  | [], acc, n => by show n ∈ acc ↔ _; simp
  | k :: r, acc, n => by
    show n ∈ adds _ r ↔ _
    rw [adds_mem r]
    by_cases h : k ∈ acc
    · rw [if_pos h, List.mem_cons]
      constructor
      · rintro (a | a)
        · exact .inl a
        · exact .inr (.inr a)
      · rintro (a | a | a)
        · exact .inl a
        · exact .inl (a ▸ h)
        · exact .inr a
    · rw [if_neg h, List.mem_append, List.mem_singleton, List.mem_cons]
      constructor
      · rintro ((a | a) | a)
        · exact .inl a
        · exact .inr (.inl a)
        · exact .inr (.inr a)
      · rintro (a | a | a)
        · exact .inl (.inl a)
        · exact .inl (.inr a)
        · exact .inr a
theorem adds_nodup : ∀ (l acc : List Int), acc.Nodup → (adds acc l).Nodup
  | [], _, h => h
  | k :: r, acc, h => by
    show (adds _ r).Nodup
    refine adds_nodup r _ ?_
    by_cases hk : k ∈ acc
    · rw [if_pos hk]; exact h
    · rw [if_neg hk]
      refine List.nodup_append.mpr ⟨h, (by simp), fun a ha b hb => ?_⟩
      rw [List.mem_singleton] at hb
      exact fun e => hk (by rw [← hb, ← e]; exact ha)
theorem adds_two : ∀ (l b acc : List Int), adds acc (adds b l) = adds (adds acc b) l
  | [], _, _ => rfl
  | n :: r, b, acc => by
    show adds acc (adds _ r) = adds _ r
    rw [adds_two r]
    by_cases h : n ∈ b
    · rw [if_pos h, if_pos ((adds_mem b acc).mpr (.inr h))]
    · rw [if_neg h, adds_app]
      rfl
theorem adds_len : ∀ (l acc : List Int), (adds acc l).length ≤ acc.length + l.length
  | [], _ => Nat.le_refl _
  | n :: r, acc => by
    have := adds_len r (if n ∈ acc then acc else acc ++ [n])
    show (adds _ r).length ≤ acc.length + (r.length + 1)
    have h2 : (if n ∈ acc then acc else acc ++ [n]).length ≤ acc.length + 1 := by
      by_cases h : n ∈ acc
      · rw [if_pos h]; omega
      · rw [if_neg h, List.length_append]; exact Nat.le_refl _
    omega
def intsOf (l : List V) : List Int := l.filterMap fun v => match v with | .int n => some n | _ => none
theorem intsOf_app (a b : List V) : intsOf (a ++ b) = intsOf a ++ intsOf b := List.filterMap_append ..
mutual
theorem ints_syms : ∀ t : Tm, intsOf (syms t) = occ t
  | .var n => rfl
  | .app f ts => by show intsOf (symss ts) = occs ts; exact ints_symss ts
theorem ints_symss : ∀ ts : List Tm, intsOf (symss ts) = occs ts
  | [] => rfl
  | t :: ts => by show intsOf (syms t ++ symss ts) = occ t ++ occs ts; rw [intsOf_app, ints_syms t, ints_symss ts]
end
mutual
theorem syms_len : ∀ t : Tm, (syms t).length = t.sz
  | .var _ => rfl
  | .app f ts => by show (symss ts).length + 1 = 1 + Tm.szs ts; rw [symss_len ts]; omega
theorem symss_len : ∀ ts : List Tm, (symss ts).length = Tm.szs ts
  | [] => rfl
  | t :: ts => by show (syms t ++ symss ts).length = t.sz + Tm.szs ts; rw [List.length_append, syms_len t, symss_len ts]
end
mutual
theorem occ_len : ∀ t : Tm, (occ t).length ≤ t.sz
  | .var _ => Nat.le_refl _
  | .app f ts => by show (occs ts).length ≤ 1 + Tm.szs ts; have := occs_len ts; omega
theorem occs_len : ∀ ts : List Tm, (occs ts).length ≤ Tm.szs ts
  | [] => Nat.le_refl _
  | t :: ts => by show (occ t ++ occs ts).length ≤ t.sz + Tm.szs ts; have := occ_len t; have := occs_len ts; rw [List.length_append]; omega
end
theorem symss_app : ∀ a b : List Tm, symss (a ++ b) = symss a ++ symss b
  | [], _ => rfl
  | t :: ts, b => by show syms t ++ symss (ts ++ b) = (syms t ++ symss ts) ++ symss b; rw [symss_app ts b, List.append_assoc]
theorem szs_app : ∀ a b : List Tm, Tm.szs (a ++ b) = Tm.szs a + Tm.szs b
  | [], _ => by show _ = 0 + _; rw [Nat.zero_add]; rfl
  | t :: ts, b => by show t.sz + Tm.szs (ts ++ b) = (t.sz + Tm.szs ts) + Tm.szs b; rw [szs_app ts b]; omega
theorem szs_rev : ∀ a : List Tm, Tm.szs a.reverse = Tm.szs a
  | [] => rfl
  | t :: ts => by
    rw [List.reverse_cons, szs_app, szs_rev ts]
    show Tm.szs ts + (t.sz + 0) = t.sz + Tm.szs ts
    omega
theorem TmsIn.rev {H : Hp} : ∀ {ts : List Tm} {vs : List V}, TmsIn H ts vs → TmsIn H ts.reverse vs.reverse
  | [], _, h => by cases (show _ = [] from h); rfl
  | t :: ts, _, ⟨v, r, rfl, h, q⟩ => by
    rw [List.reverse_cons, List.reverse_cons]
    exact TmsIn.append (TmsIn.rev q) (TmsIn.one h)
theorem TmsIn.snoc {H : Hp} {ts : List Tm} {vs : List V} {v : V} (h : TmsIn H ts vs) (e : vs[vs.length - 1]? = some v) : ∃ us t, ts = us ++ [t] ∧ TmIn H t v ∧ TmsIn H us vs.dropLast := by
  have hl := h.length
  rcases List.eq_nil_or_concat ts with z | ⟨us, t, z⟩
  · subst z
    have : vs = [] := List.length_eq_zero_iff.mp (by rw [hl]; rfl)
    subst this
    simp at e
  · rw [List.concat_eq_append] at z
    subst z
    have hn : vs ≠ [] := fun w => by rw [w] at hl; simp at hl
    have e2 : vs = vs.dropLast ++ [v] := by
      have h1 := List.dropLast_concat_getLast hn
      have h2 : vs.getLast hn = v := by
        rw [List.getLast_eq_getElem]
        have := List.getElem?_eq_some_iff.mp e
        exact this.2
      rw [h2] at h1
      exact h1.symm
    have key : ∀ (us : List Tm) (ws : List V) (t : Tm) (v : V), us.length = ws.length → TmsIn H (us ++ [t]) (ws ++ [v]) → TmIn H t v ∧ TmsIn H us ws := by
      intro us
      induction us with
      | nil =>
        intro ws t v hl q
        have : ws = [] := List.length_eq_zero_iff.mp hl.symm
        subst this
        obtain ⟨a, r, e, h1, _⟩ := q
        injection e with e _
        exact ⟨e ▸ h1, rfl⟩
      | cons u us ih =>
        intro ws t v hl q
        match ws, hl with
        | w :: ws, hl =>
          obtain ⟨a, r, e, h1, h2⟩ := q
          injection e with e1 e2
          subst e1
          have := ih ws t v (by simpa using hl) (by rw [← e2] at h2; exact h2)
          exact ⟨this.1, w, ws, rfl, h1, this.2⟩
    rw [e2] at h
    have hl2 : us.length = vs.dropLast.length := by rw [List.length_dropLast, hl, List.length_append]; simp
    have q := key us _ t v hl2 h
    exact ⟨us, t, rfl, q.1, q.2⟩
mutual
theorem Tm.dep_le_sz : ∀ t : Tm, t.dep ≤ t.sz
  | .var _ => Nat.le_refl _
  | .app _ ts => by show 1 + Tm.deps ts ≤ 1 + Tm.szs ts; have := Tm.deps_le_szs ts; omega
theorem Tm.deps_le_szs : ∀ ts : List Tm, Tm.deps ts ≤ Tm.szs ts
  | [] => Nat.le_refl _
  | t :: ts => by show max t.dep (Tm.deps ts) ≤ t.sz + Tm.szs ts; have := Tm.dep_le_sz t; have := Tm.deps_le_szs ts; omega
end
theorem occs_app : ∀ a b : List Tm, occs (a ++ b) = occs a ++ occs b
  | [], _ => rfl
  | t :: ts, b => by show occ t ++ occs (ts ++ b) = (occ t ++ occs ts) ++ occs b; rw [occs_app ts b, List.append_assoc]
theorem szs_take (ts : List Tm) (i : Nat) : Tm.szs (ts.take i) ≤ Tm.szs ts := by
  have h := szs_app (ts.take i) (ts.drop i)
  rw [List.take_append_drop] at h
  omega
theorem map_get {l : List Int} {i : Nat} {y : V} (h : (l.map V.int)[i]? = some y) : ∃ n, l[i]? = some n ∧ y = .int n := by
  rw [List.getElem?_map] at h
  cases e : l[i]? with
  | none => rw [e] at h; cases h
  | some n => rw [e] at h; exact ⟨n, rfl, (Option.some.inj h).symm⟩
theorem inV_ints (n : Int) : ∀ l : List Int, inV (.int n) (l.map V.int) = decide (n ∈ l) := by
  intro l
  unfold inV
  rw [List.any_map]
  refine Bool.eq_iff_iff.mpr ?_
  rw [List.any_eq_true, decide_eq_true_iff]
  constructor
  · rintro ⟨x, hx, e⟩
    have e : (x == n) = true := e
    rw [← eq_of_beq e]; exact hx
  · intro h
    exact ⟨n, h, beq_self_eq_true n⟩
mutual
theorem syms_kind : ∀ (t : Tm) (y : V), y ∈ syms t → (∃ n, y = .int n) ∨ ∃ f, y = .str f
  | .var n, y, h => .inl ⟨n, by simpa [syms] using h⟩
  | .app f ts, y, h => by
    rcases List.mem_cons.mp (show y ∈ V.str f :: symss ts from h) with e | h
    · exact .inr ⟨f, e⟩
    · exact symss_kind ts y h
theorem symss_kind : ∀ (ts : List Tm) (y : V), y ∈ symss ts → (∃ n, y = .int n) ∨ ∃ f, y = .str f
  | [], _, h => nomatch h
  | t :: ts, y, h => by
    rcases List.mem_append.mp (show y ∈ syms t ++ symss ts from h) with h | h
    · exact syms_kind t y h
    · exact symss_kind ts y h
end
/-- a dict of True by ints -/
def kd (l : List Int) : List (Key × V) := l.map fun n => (.inl n, .bl true)
theorem kd_val (l : List Int) (n : Int) : valV (kd l) (.inl n) = if n ∈ l then some (.bl true) else none := by
  induction l with
  | nil => rfl
  | cons a r ih =>
    by_cases h : a = n
    · subst h
      rw [if_pos (List.mem_cons_self ..)]
      exact valV_pos (p := ((.inl a : Key), V.bl true)) rfl
    · have e : ¬ ((Sum.inl a : Key) = .inl n) := fun z => h (Sum.inl.inj z)
      show valV (((.inl a : Key), V.bl true) :: kd r) (.inl n) = _
      rw [valV_neg e, ih]
      by_cases h2 : n ∈ r
      · rw [if_pos h2, if_pos (List.mem_cons_of_mem _ h2)]
      · rw [if_neg h2, if_neg fun z => (List.mem_cons.mp z).elim (fun z => h z.symm) h2]
theorem kd_put (l : List Int) (n : Int) : putK (kd l) (.inl n) (.bl true) = kd (if n ∈ l then l else l ++ [n]) := by
  by_cases h : n ∈ l
  · rw [if_pos h]
    unfold putK
    rw [if_pos (by rw [valV_any, kd_val, if_pos h]; rfl)]
    unfold kd
    rw [List.map_map]
    refine List.map_congr_left fun a _ => ?_
    show (if (Sum.inl a : Key) = .inl n then ((Sum.inl a : Key), V.bl true) else _) = _
    by_cases e : (Sum.inl a : Key) = .inl n
    · rw [if_pos e]
    · rw [if_neg e]
  · rw [if_neg h, putK_new _ (by rw [kd_val, if_neg h])]
    unfold kd
    rw [List.map_append]; rfl
theorem kd_len (l : List Int) : (kd l).length = l.length := List.length_map _

/-! substitutions -/
mutual
def sub (m : Int → Option Tm) : Tm → Tm
  | .var n => (m n).getD (.var n)
  | .app f ts => .app f (subs m ts)
def subs (m : Int → Option Tm) : List Tm → List Tm
  | [] => []
  | t :: ts => sub m t :: subs m ts
end
theorem subs_map (m : Int → Option Tm) : ∀ ts, subs m ts = ts.map (sub m)
  | [] => rfl
  | t :: ts => by show sub m t :: subs m ts = _; rw [subs_map m ts]; rfl
/-- the dict at d says what m says -/
def SbIn (H : Hp) (d : Addr) (m : Int → Option Tm) : Prop := ∃ kvs : List (Key × V), H d = some (.dK kvs) ∧ ∀ n, match m n with
  | none => valV kvs (.inl n) = none
  | some t => ∃ v, valV kvs (.inl n) = some v ∧ TmIn H t v
theorem SbIn.mono {H H' : Hp} {d : Addr} {m : Int → Option Tm} (h : SbIn H d m) (t : Tu H H') (e : ∀ kvs, H d = some (.dK kvs) → H' d = some (.dK kvs)) : SbIn H' d m := by
  obtain ⟨kvs, h1, h2⟩ := h
  refine ⟨kvs, e _ h1, fun n => ?_⟩
  have := h2 n
  cases hm : m n with
  | none => rw [hm] at this; exact this
  | some u =>
    rw [hm] at this
    obtain ⟨v, a, b⟩ := this
    exact ⟨v, a, b.tu t⟩
theorem SbIn.same {H H' : Hp} {d : Addr} {m : Int → Option Tm} (h : SbIn H d m) (s : Same H H') : SbIn H' d m := h.mono (tu_same s) fun _ e => s _ _ e
theorem SbIn.at {H : Hp} {d : Addr} {m : Int → Option Tm} (h : SbIn H d m) : ∃ kvs, H d = some (.dK kvs) := let ⟨k, e, _⟩ := h; ⟨k, e⟩
/-- d.get(n, n) -/
theorem SbIn.get {H : Hp} {d : Addr} {m : Int → Option Tm} (h : SbIn H d m) (n : Int) : ∃ o, DGet H d (.int n) o ∧ TmIn H ((m n).getD (.var n)) (o.getD (.int n)) := by
  obtain ⟨kvs, h1, h2⟩ := h
  have := h2 n
  refine ⟨valV kvs (.inl n), DGet.k (k := Sum.inl n) h1, ?_⟩
  cases hm : m n with
  | none => rw [hm] at this; rw [this]; rfl
  | some u =>
    rw [hm] at this
    obtain ⟨v, a, b⟩ := this
    rw [a]; exact b
theorem SbIn.put {H : Hp} {d : Addr} {m : Int → Option Tm} {kvs : List (Key × V)} (h1 : H d = some (.dK kvs)) (h2 : ∀ n, match m n with | none => valV kvs (.inl n) = none | some t => ∃ v, valV kvs (.inl n) = some v ∧ TmIn H t v)
    {H' : Hp} (tu : Tu H H') {k : Int} {t : Tm} {v : V} (ht : TmIn H' t v) (e : H' d = some (.dK (putK kvs (.inl k) v))) : SbIn H' d (fun n => if n = k then some t else m n) := by
  refine ⟨_, e, fun n => ?_⟩
  have := h2 n
  rw [valV_put]
  by_cases hn : n = k
  · subst hn
    simp only [if_true]
    exact ⟨v, rfl, ht⟩
  · have hn' : ¬ ((Sum.inl n : Key) = .inl k) := fun z => hn (Sum.inl.inj z)
    simp only [if_neg hn, if_neg hn']
    cases hm : m n with
    | none => rw [hm] at this; exact this
    | some u =>
      rw [hm] at this
      obtain ⟨w, a, b⟩ := this
      exact ⟨w, a, b.tu tu⟩

/-! while xs: -/
theorem while_list {K : PySem.W.Frag} {i : Nat} {tb : TS} {D : Ends} {σ : L2.St} {H : Hp} (Pv : L2.St → Hp → Prop) (μ : L2.St → Hp → Nat) (h0 : Pv σ H)
    (hs : ∀ σ H, Pv σ H → ∃ p xs, σ[i]? = some (some (.ref p)) ∧ H p = some (.lst xs) ∧ (xs = [] → D.nx σ H) ∧ (xs ≠ [] → tb { D with nx := fun σ' H' => Pv σ' H' ∧ μ σ' H' < μ σ H, ct := fun σ' H' => Pv σ' H' ∧ μ σ' H' < μ σ H, bk := D.nx } σ H)) :
    tWhile (fun σ H Q => tVar i σ H fun x H' => ∃ k, TruV K x H' k ∧ Q k H') tb D σ H := by
  refine while_by Pv μ h0 (fun σ H p => ?_) fun σ H Q Q' m ⟨v, e, k, t, q⟩ => ⟨v, e, k, t, m _ _ q⟩
  obtain ⟨a, xs, e, hp, h1, h2⟩ := hs σ H p
  refine ⟨_, e, _, .inl ⟨xs, SqL.of hp, rfl⟩, ?_⟩
  cases xs with
  | nil => exact h1 rfl
  | cons x xs => exact h2 (List.cons_ne_nil _ _)
end J

/-! ### rules of our own: a list extended by a tuple, t[:0:-1] -/
namespace J
open PySem L2 PyProof.Rows
section
open PySem PySem.Builtin
theorem ext_tup (l : Addr) (xs : Array Value) (n : Nat) (b : Addr) (ys : Array Value) (m : Nat) (d : Option Addr) (sl : Array (Option Value))
    (h0 : ¬(!xs.isEmpty && Builtin.List.listTooLong (xs.size + ys.size)) = true) (h1 : xs.size ≤ sizeLine) (h2 : xs.size + ys.size ≤ sizeLine + 1) :
    Meets (Builtin.«list.extend» ⟨[.ref l, .ref b], []⟩) (fun _ R s => s.heap.get? l = some ⟨.type "list", none, .seq xs n, #[]⟩ ∧ s.heap.get? b = some ⟨.type "tuple", d, .seq ys m, sl⟩ ∧
      R (.ok (.ret Value.none)) { s with heap := s.heap.update l (Obj.mapSeq fun x => x ++ ys), toks := s.toks }) := by
  refine .of_wp fun prog w A R s h => ?_
  obtain ⟨hp, g, dd, tk, os⟩ := s
  obtain ⟨hl, hb, h⟩ := h
  have f1 := AutoSeq1.idx_int
  have f2 := AutoSeq1.sub_tuple_tuple
  have f4 := AutoSeq1.sub_tuple_list
  have f5 := AutoSeq1.sub_list_tuple
  have f3 := AutoSeq1.sub_list_list
  have hz' : (xs ++ ys).size ≤ sizeLine + 1 := by rw [Array.size_append]; exact h2
  wp_walk using (wpAny_updateSeq hl rfl (hz := h1) (_hz' := hz')), AutoSeq1.wpAny_loadPart' hl, AutoSeq1.wpAny_loadPart' hb
  exact ⟨_, rfl, h⟩
end
def rExtT (K : PySem.W.Frag) : V → List V → Hp → VK → Prop := fun x vs H Q => ∃ l b xs zs, x = .ref l ∧ vs = [.ref b] ∧ H l = some (.lst xs) ∧ SqT K H b zs ∧ xs.length + zs.length ≤ sizeLine ∧ Q .non (upd H l (.lst (xs ++ zs)))
section
variable {X : Cx}
theorem mt_extT : MtM X "list.extend" (rExtT X.K) := by
  intro pins s σ H x vs v us Q I rx rv h
  obtain ⟨l, b, xs, zs, rfl, rfl, hH, hB, hz, q⟩ := h
  cases rx
  obtain ⟨u, rfl, ru⟩ := rv.one
  cases ru
  obtain ⟨_, its, n, r, hl, e⟩ := I.lstM hH
  obtain ⟨its2, r2, ⟨o, ho, hc, m, hd⟩, _⟩ := I.tuple hB
  have hl2 := r2.length
  obtain ⟨oc, od, oda, osl⟩ := o
  cases hc
  cases hd
  have sz : its.toArray.size + its2.toArray.size ≤ sizeLine := by rw [List.size_toArray, List.size_toArray, ← hl, ← hl2]; exact hz
  have door : ¬ (!its.toArray.isEmpty && Builtin.List.listTooLong (its.toArray.size + its2.toArray.size)) = true := by
    rw [notLongL sz, Bool.and_false]; exact Bool.false_ne_true
  refine call_meets F.slot_list_extend ⟨_, e, rfl⟩ F.entry_list_extend (F.args_list_extend_2 _ _) (ext_tup l its.toArray n b its2.toArray m od osl door (by omega) (by omega)) ⟨e, ho, ?_⟩
  refine ⟨.non, _, I.lset (its' := its ++ its2) hH e (by simp) (r.append r2) ?_, rfl, q⟩
  rw [List.length_append]; exact hz
end

/-! t[:0:-1] -/
theorem adj_rev (n : Nat) : Builtin.Slice.sliceAdjust none (some 0) (-1) ((n + 1 : Nat) : Int) = ((n : Int), 0) := by
  unfold Builtin.Slice.sliceAdjust
  simp only [show ((-1 : Int) < 0) = True from eq_true (by decide), if_true]
  have e1 : ¬ ((0 : Int) < 0) := by decide
  rw [if_neg e1]
  refine Prod.ext ?_ ?_
  · show ((n + 1 : Nat) : Int) - 1 = n
    omega
  · show min (0 : Int) (((n + 1 : Nat) : Int) - 1) = 0
    omega
theorem places_rev (n : Nat) : Builtin.Slice.slicePlaces (n : Int) 0 (-1) = n := by
  unfold Builtin.Slice.slicePlaces
  rw [if_neg (by decide : ¬ ((-1 : Int) > 0))]
  by_cases h : (n : Int) > 0
  · rw [if_pos h, show (- -1 : Int) = 1 by decide, Int.ediv_one]
    omega
  · rw [if_neg h]; omega
section
variable {prog : Program} {w : World} {A : Around} {E : Value → Shared → Prop} {s : Shared}
theorem applied_rev {sl : Addr} {vu vs : Value} {n : Nat} {Q : Int × Int × Nat → Shared → Prop} (hs : s.heap.IsSliceOf sl .none vu vs) (pu : IsPart vu (some 0)) (ps : IsPart vs (some (-1)))
    (h : Q ((n : Int), -1, n) s) : wpAny (model prog w) A (Builtin.Slice.sliceApplied (.ref sl) (pure ((n + 1 : Nat) : Int))) Q E s := by
  obtain ⟨os, hos, hcs, hds⟩ := id hs
  unfold Builtin.Slice.sliceApplied Builtin.Slice.sliceFields
  refine wpAny_bind (wpAny_bind (wpAny_field hos hds (x := .none) rfl (wpAny_bind (wpAny_field hos hds (x := vu) rfl (wpAny_bind (wpAny_field hos hds (x := vs) rfl (wpAny_pure ?_)))))))
  refine wpAny_bind (HT.slicePart_ ps ?_)
  show wpAny _ _ (if ((-1 : Int) == 0) = true then _ else _) _ _ s
  rw [if_neg (by decide)]
  refine wpAny_bind (slicePart_none (wpAny_bind (HT.slicePart_ pu (wpAny_bind (wpAny_pure ?_)))))
  show wpAny _ _ (match Builtin.Slice.sliceAdjust none (some 0) (-1) ((n + 1 : Nat) : Int) with | (lo, hi) => pure (lo, (-1 : Int), Builtin.Slice.slicePlaces lo hi (-1))) _ _ s
  rw [adj_rev]
  show wpAny _ _ (pure ((n : Int), (-1 : Int), Builtin.Slice.slicePlaces (n : Int) 0 (-1))) _ _ s
  rw [places_rev]
  exact wpAny_pure h
theorem fm_congr {α β : Type} {f g : α → Option β} : ∀ {l : List α}, (∀ k ∈ l, f k = g k) → l.filterMap f = l.filterMap g
  | [], _ => rfl
  | a :: l, h => by
    rw [List.filterMap_cons, List.filterMap_cons, h a (List.mem_cons_self ..), fm_congr fun k hk => h k (List.mem_cons_of_mem _ hk)]
theorem pick_rev (x : Value) (xs : List Value) : ((List.range xs.length).filterMap fun (k : Nat) => (x :: xs).toArray[((xs.length : Int) + (k : Int) * -1).toNat]?) = xs.reverse := by
  have e : ∀ (l : List Nat), (∀ k ∈ l, k < xs.length) → (l.filterMap fun (k : Nat) => (x :: xs).toArray[((xs.length : Int) + (k : Int) * -1).toNat]?) = l.filterMap fun k => xs[xs.length - 1 - k]? := by
    intro l hl
    refine fm_congr fun k hk => ?_
    have h1 := hl k hk
    have e1 : ((xs.length : Int) + (k : Int) * -1).toNat = (xs.length - 1 - k) + 1 := by omega
    rw [e1]
    show ((x :: xs).toArray[(xs.length - 1 - k) + 1]?) = _
    rw [List.getElem?_toArray, List.getElem?_cons_succ]
  rw [e _ fun k hk => List.mem_range.mp hk]
  have e2 : ∀ (l : List Nat), (∀ k ∈ l, k < xs.length) → (l.filterMap fun k => xs[xs.length - 1 - k]?) = l.filterMap fun k => xs.reverse[k]? := by
    intro l hl
    refine fm_congr fun k hk => ?_
    rw [List.getElem?_reverse (hl k hk)]
  rw [e2 _ fun k hk => List.mem_range.mp hk]
  have e3 : ∀ (ys : List Value), ((List.range ys.length).filterMap fun k => ys[k]?) = ys := by
    intro ys
    have := PySem.W.krv_all ys.toArray
    simpa using this
  have := e3 xs.reverse
  rwa [List.length_reverse] at this
theorem item_rev {t sl : Addr} {x : Value} {xs : List Value} {vu vs : Value} {Q : Value → Shared → Prop} (ht : IsTup s.heap t (x :: xs).toArray) (hs : s.heap.IsSliceOf sl .none vu vs) (pu : IsPart vu (some 0)) (ps : IsPart vs (some (-1)))
    (h : Q (.ref s.heap.objs.size) { s with heap := s.heap.push { cls := .type "tuple", data := .seq xs.reverse.toArray } }) (hsz : xs.length ≤ sizeLine) : wpAny (model prog w) A (getItem (.ref t) (.ref sl)) Q E s := by
  have htake : sizeOk (.seq xs.reverse.toArray) := by
    show xs.reverse.toArray.size ≤ sizeLine
    rw [List.size_toArray, List.length_reverse]; exact hsz
  obtain ⟨os, hos, hcs, hds⟩ := id hs
  have hTs : s.TypeIs (.ref sl) "slice" := ⟨os, hos, hcs⟩
  unfold getItem
  try with_reducible refine wpAny_holding ?_
  first | refine wpAny_bind (wpAny_pure ?_) | skip
  refine wpAny_bind (wpAny_sequenceKey ht.typeIs (by decide) ?_)
  refine wpAny_bind (wpAny_callSpecial?_slot (name := Str.ofString "__getitem__") ht.typeIs PyProof.Rows.slot_tuple_getitem
    (wpAny_call_entry PyProof.Rows.slot_tuple_getitem ht.typeIs entry_tuple_getitem ?_ (args_tuple_getitem _ _)))
  show wpAny _ _ (Builtin.Tuple.tupleItemsOf (.ref t) >>= _) _ _ s
  refine wpAny_bind (PyProof.Rows.tupleItemsOf_ ht ?_)
  refine wpAny_bind (wpAny_typeOf hTs ?_)
  rw [if_pos (by decide)]
  have e0 : (x :: xs).toArray.size = xs.length + 1 := by rw [List.size_toArray]; rfl
  rw [e0]
  refine wpAny_bind (applied_rev (n := xs.length) hs pu ps ?_)
  have hno : ¬ (((xs.length : Int) == 0 && ((-1 : Int) == 1) && (xs.length == xs.length + 1)) = true) := by
    intro q
    rw [Bool.and_eq_true, Bool.and_eq_true] at q
    exact absurd q.1.2 (by decide)
  show wpAny _ _ (if ((xs.length : Int) == 0 && ((-1 : Int) == 1) && (xs.length == xs.length + 1)) = true then _ else _) _ _ s
  rw [if_neg hno, pick_rev]
  first
    | exact wpAny_bind (m := Builtin.Tuple.tupleExact _) (wpAny_newObj_type (wpAny_pure ⟨_, rfl, wpAny_pure h⟩) htake)
    | exact wpAny_bind (m := Builtin.Tuple.tupleExact _) (wpAny_newObj_type (wpAny_bind (wpAny_pure (wpAny_pure ⟨_, rfl, wpAny_pure h⟩))) htake)
    | exact wpAny_bind (wpAny_bind (m := Builtin.Tuple.tupleExact _) (wpAny_newObj_type (wpAny_pure (wpAny_pure ⟨_, rfl, wpAny_pure h⟩)) htake))
    | exact wpAny_bind (wpAny_bind (m := Builtin.Tuple.tupleExact _) (wpAny_newObj_type (wpAny_pure ⟨_, rfl, wpAny_pure h⟩) htake))
end
def tRevT (K : PySem.W.Frag) (te : TE) : TE := fun σ H Q => te σ H fun x H1 => ∃ a y ys, x = .ref a ∧ SqT K H1 a (y :: ys) ∧ ∀ p, H1 p = none → Q (.ref p) (upd H1 p (.tup ys.reverse))
theorem pe_revT {X : Cx} {e : Expr} {te : TE} {k k0 : Nat} {p0 p1 p2 p3 pos : Pos} (he : PE X e te) : PE X (.Subscript e (.Slice none (some (.Constant (.int 0) k0 p0)) (some (.UnaryOp .USub (.Constant (.int 1) k p1) p2)) p3) pos) (tRevT X.K te) := by
  refine ⟨fun pins s σ H Q I h => ?_⟩
  refine Subscript_ (thn (he.run pins s σ H _ I h) fun v s1 ⟨x, H1, I1, r1, q1⟩ => ?_)
  obtain ⟨a, y, ys, ex, hx, q⟩ := q1
  subst ex
  cases r1
  have hst : PO X (some (.UnaryOp .USub (.Constant (.int 1) k p1) p2)) (tPart (tUn (rU fun i => .int (-i)) (tC (.int 1)))) := po_some (pe_un un_neg pe_int)
  have hup : PO X (some (.Constant (.int 0) k0 p0)) (tPart (tC (.int 0))) := po_some pe_int
  rw [show (Expr.Slice none (some (.Constant (.int 0) k0 p0)) (some (.UnaryOp .USub (.Constant (.int 1) k p1) p2)) p3) = Expr.Slice none (some (.Constant (.int 0) k0 p0)) (some (.UnaryOp .USub (.Constant (.int 1) k p1) p2)) p3 from rfl]
  refine wpAny_Slice (thn (po_none.run pins s1 σ H1 (fun o H2 => o = none ∧ H2 = H1) I1 ⟨rfl, rfl⟩) fun vl s2 ⟨l, H2, I2, pl, el, e2⟩ => ?_)
  subst el e2
  refine thn (hup.run pins s2 σ H2 (fun o H3 => o = some 0 ∧ H3 = H2) I2 ⟨0, rfl, rfl, rfl⟩) fun vu s3 ⟨u, H3, I3, pu, eu, e3⟩ => ?_
  subst eu e3
  refine thn (hst.run pins s3 σ H3 (fun o H4 => o = some (-1) ∧ H4 = H3) I3 ⟨1, rfl, -1, rfl, rfl, rfl⟩) fun vs s4 ⟨o, H4, I4, ps, eo, e4⟩ => ?_
  subst eo e4
  cases pl
  have I5 : Inv X pins σ H4 { s4 with heap := s4.heap.push { cls := .type "slice", data := .fields #[.none, vu, vs] } } := I4.kept (t' := s4.toks) fun b ob q => Heap.get?_push_of_some _ q
  obtain ⟨its, r, ht, hz⟩ := I5.tuple hx
  match its, r with
  | z :: zs, .cons rz rzs =>
  have hlen := rzs.length
  show wpAny (model X.prog X.w) X.A (subscriptTail e (.Slice none (some (.Constant (.int 0) k0 p0)) (some (.UnaryOp .USub (.Constant (.int 1) k p1) p2)) p3) (.ref a) (.ref s4.heap.objs.size)) (EP X pins σ Q) X.xe { s4 with heap := s4.heap.push { cls := .type "slice", data := .fields #[.none, vu, vs] } }
  refine tail_any (ops := [.ref a, .ref s4.heap.objs.size]) ht.typeIs PyProof.Rows.slot_tuple_getitem.lookup ?_ (by with_unfolding_all rfl)
  have hz' : ys.length ≤ sizeLine := by
    have : ys.length + 1 ≤ sizeLine := hz
    omega
  refine item_rev ht (Heap.IsSliceOf.new _ .none vu vs) pu ps ?_ (by rw [← hlen]; exact hz')
  refine ⟨.ref _, _, I5.laid (t' := s4.toks) (o := .tup ys.reverse) (fun b ob q => Heap.get?_push_of_some _ q) (Nat.le_refl _) ?_, rfl, q _ (I5.hok.fresh (Nat.le_refl _))⟩
  exact ⟨by rw [List.length_reverse]; exact hz', _, L2.Vals.reverse rzs, IsTup.new _ _⟩
end J

/-! ### positions -/
namespace J
open PySem L2
mutual
def poss : Tm → List (List Int)
  | .var _ => [[]]
  | .app _ ts => [] :: posss 1 ts
def posss : Nat → List Tm → List (List Int)
  | _, [] => []
  | k, t :: ts => (poss t).map (fun q => (k : Int) :: q) ++ posss (k + 1) ts
end
/-- q is a position of t -/
def IsPos : List Int → Tm → Prop
  | [], _ => True
  | k :: q, .app _ ts => 1 ≤ k ∧ ∃ t, ts[(k - 1).toNat]? = some t ∧ IsPos q t
  | _ :: _, .var _ => False
def rep (u : Tm) : List Int → Tm → Tm
  | [], _ => u
  | k :: q, .app f ts => .app f (ts.set (k - 1).toNat (rep u q (ts.getD (k - 1).toNat u)))
  | _ :: _, .var n => .var n
/-- the subterm at q -/
def at? : List Int → Tm → Option Tm
  | [], t => some t
  | k :: q, .app _ ts => if 1 ≤ k then (ts[(k - 1).toNat]?).bind (at? q) else none
  | _ :: _, .var _ => none
mutual
theorem poss_is : ∀ (t : Tm) (q : List Int), q ∈ poss t → IsPos q t ∧ q.length < t.dep
  | .var n, q, h => by
    rw [List.mem_singleton.mp (show q ∈ [[]] from h)]
    exact ⟨trivial, Nat.one_pos⟩
  | .app f ts, q, h => by
    rcases List.mem_cons.mp (show q ∈ [] :: posss 1 ts from h) with e | h
    · rw [e]; exact ⟨trivial, Tm.dep_pos (.app f ts)⟩
    · obtain ⟨j, t, r, rfl, ht, h1, h2⟩ := posss_is 1 ts q h
      have hm := Tm.dep_of_mem (List.mem_of_getElem? ht)
      refine ⟨⟨by omega, t, ?_, h1⟩, ?_⟩
      · have : (((1 + j : Nat) : Int) - 1).toNat = j := by omega
        rw [this]; exact ht
      · show r.length + 1 < 1 + Tm.deps ts
        omega
theorem posss_is : ∀ (k : Nat) (ts : List Tm) (q : List Int), q ∈ posss k ts → ∃ (j : Nat) (t : Tm) (r : List Int), q = ((k + j : Nat) : Int) :: r ∧ ts[j]? = some t ∧ IsPos r t ∧ r.length < t.dep
  | _, [], _, h => nomatch h
  | k, t :: ts, q, h => by
    rcases List.mem_append.mp (show q ∈ (poss t).map (fun q => (k : Int) :: q) ++ posss (k + 1) ts from h) with h | h
    · obtain ⟨r, hr, rfl⟩ := List.mem_map.mp h
      have := poss_is t r hr
      exact ⟨0, t, r, rfl, rfl, this.1, this.2⟩
    · obtain ⟨j, u, r, rfl, hu, h1, h2⟩ := posss_is (k + 1) ts q h
      exact ⟨j + 1, u, r, by rw [show k + 1 + j = k + (j + 1) by omega], by rw [List.getElem?_cons_succ]; exact hu, h1, h2⟩
end
mutual
theorem poss_len : ∀ t : Tm, (poss t).length = t.sz
  | .var _ => rfl
  | .app f ts => by show (posss 1 ts).length + 1 = 1 + Tm.szs ts; rw [posss_len 1 ts]; omega
theorem posss_len : ∀ (k : Nat) (ts : List Tm), (posss k ts).length = Tm.szs ts
  | _, [] => rfl
  | k, t :: ts => by
    show ((poss t).map (fun q => (k : Int) :: q) ++ posss (k + 1) ts).length = t.sz + Tm.szs ts
    rw [List.length_append, List.length_map, poss_len t, posss_len (k + 1) ts]
end
theorem posss_app : ∀ (a b : List Tm) (k : Nat), posss k (a ++ b) = posss k a ++ posss (k + a.length) b
  | [], _, _ => rfl
  | t :: ts, b, k => by
    show (poss t).map (fun q => (k : Int) :: q) ++ posss (k + 1) (ts ++ b) = ((poss t).map (fun q => (k : Int) :: q) ++ posss (k + 1) ts) ++ posss (k + (ts.length + 1)) b
    rw [posss_app ts b, List.append_assoc, show k + 1 + ts.length = k + (ts.length + 1) by omega]
/-- a list of tuples of ints -/
def PosIn (H : Hp) (p : Addr) (ps : List (List Int)) : Prop := ∃ as : List Addr, H p = some (.lst (as.map V.ref)) ∧ as.length = ps.length ∧ ∀ (k : Nat) (a : Addr) (q : List Int), as[k]? = some a → ps[k]? = some q → H a = some (.tup (q.map V.int))
theorem PosIn.get {H : Hp} {p : Addr} {ps : List (List Int)} (h : PosIn H p ps) {k : Nat} (hk : k < ps.length) : ∃ (xs : List V) (a : Addr) (q : List Int), H p = some (.lst xs) ∧ xs.length = ps.length ∧ xs[k]? = some (.ref a) ∧ ps[k]? = some q ∧ H a = some (.tup (q.map V.int)) := by
  obtain ⟨as, h1, h2, h3⟩ := h
  have hk' : k < as.length := by omega
  exact ⟨_, as[k], ps[k], h1, by rw [List.length_map, h2], by rw [List.getElem?_map, List.getElem?_eq_getElem hk']; rfl, List.getElem?_eq_getElem hk, h3 k _ _ (List.getElem?_eq_getElem hk') (List.getElem?_eq_getElem hk)⟩
theorem PosIn.mono {H H' : Hp} {p : Addr} {ps : List (List Int)} (h : PosIn H p ps) (t : Tu H H') (e : ∀ xs, H p = some (.lst xs) → H' p = some (.lst xs)) : PosIn H' p ps := by
  obtain ⟨as, h1, h2, h3⟩ := h
  exact ⟨as, e _ h1, h2, fun k a q ea eq => t _ _ (h3 k a q ea eq)⟩
theorem PosIn.same {H H' : Hp} {p : Addr} {ps : List (List Int)} (h : PosIn H p ps) (s : Same H H') : PosIn H' p ps := h.mono (tu_same s) fun _ e => s _ _ e
theorem PosIn.push {H H' : Hp} {p a : Addr} {ps : List (List Int)} {q : List Int} {as : List Addr} (h1 : H p = some (.lst (as.map V.ref))) (h2 : as.length = ps.length) (h3 : ∀ (k : Nat) (a : Addr) (q : List Int), as[k]? = some a → ps[k]? = some q → H a = some (.tup (q.map V.int)))
    (t : Tu H H') (e : H' p = some (.lst (as.map V.ref ++ [.ref a]))) (ha : H' a = some (.tup (q.map V.int))) : PosIn H' p (ps ++ [q]) := by
  refine ⟨as ++ [a], by rw [e, List.map_append]; rfl, by rw [List.length_append, List.length_append, h2]; rfl, fun k b r eb er => ?_⟩
  by_cases hk : k < as.length
  · rw [List.getElem?_append_left hk] at eb
    rw [List.getElem?_append_left (by omega)] at er
    exact t _ _ (h3 k b r eb er)
  · have h4 := (List.getElem?_eq_some_iff.mp eb).1
    rw [List.length_append, List.length_singleton] at h4
    have ek : k = as.length := by omega
    subst ek
    rw [List.getElem?_append_right (Nat.le_refl _), Nat.sub_self] at eb
    rw [List.getElem?_append_right (by omega), h2, Nat.sub_self] at er
    cases eb; cases er
    exact ha
theorem cutLo (vs : List V) (k : Nat) : cutV vs none (some (k : Int)) = vs.take k := by
  unfold cutV
  have e1 : HT.sIx vs.length 0 none = 0 := rfl
  rw [e1, HT.sIx_nat, List.drop_zero, Nat.sub_zero]
  by_cases h : k ≤ vs.length
  · rw [Nat.min_eq_left h]
  · rw [Nat.min_eq_right (by omega), List.take_of_length_le (Nat.le_refl _), List.take_of_length_le (by omega)]
theorem cutHi (vs : List V) (k : Nat) : cutV vs (some (k : Int)) none = vs.drop k := by
  unfold cutV
  have e1 : HT.sIx vs.length vs.length none = vs.length := rfl
  rw [e1, HT.sIx_nat]
  by_cases h : k ≤ vs.length
  · rw [Nat.min_eq_left h, List.take_of_length_le (by rw [List.length_drop]; exact Nat.le_refl _)]
  · rw [Nat.min_eq_right (by omega), List.drop_of_length_le (Nat.le_refl _), List.drop_of_length_le (by omega), List.take_nil]
theorem notLo {vs : List V} {k : Nat} (h : k < vs.length) : ¬ (HT.sIx vs.length 0 none = 0 ∧ HT.sIx vs.length vs.length (some (k : Int)) = vs.length) := fun z => by
  rw [HT.sIx_nat] at z
  have := z.2
  omega
theorem notHi {vs : List V} {k : Nat} (h : 1 ≤ k) (hv : 1 ≤ vs.length) : ¬ (HT.sIx vs.length 0 (some (k : Int)) = 0 ∧ HT.sIx vs.length vs.length none = vs.length) := fun z => by
  rw [HT.sIx_nat] at z
  have := z.1
  omega
theorem TmsIn.take {H : Hp} : ∀ {ts : List Tm} {vs : List V} (k : Nat), TmsIn H ts vs → TmsIn H (ts.take k) (vs.take k)
  | [], _, k, h => by cases (show _ = [] from h); cases k <;> rfl
  | _ :: _, _, 0, _ => rfl
  | t :: ts, _, k + 1, ⟨v, r, rfl, h, q⟩ => ⟨v, r.take k, rfl, h, TmsIn.take k q⟩
theorem TmsIn.drop {H : Hp} : ∀ {ts : List Tm} {vs : List V} (k : Nat), TmsIn H ts vs → TmsIn H (ts.drop k) (vs.drop k)
  | [], _, k, h => by cases (show _ = [] from h); cases k <;> rfl
  | _ :: _, _, 0, h => h
  | t :: ts, _, k + 1, ⟨v, r, rfl, h, q⟩ => TmsIn.drop k q
theorem set_cut {α : Type} {l : List α} {k : Nat} {x : α} (h : k < l.length) : l.set k x = l.take k ++ [x] ++ l.drop (k + 1) := by
  rw [List.set_eq_take_append_cons_drop, if_pos h, List.append_assoc]; rfl
/-- sizes and depths behind a replacement -/
theorem rep_dep (u : Tm) : ∀ (q : List Int) (t : Tm), IsPos q t → (rep u q t).dep ≤ max t.dep (q.length + u.dep) ∧ (rep u q t).sz ≤ t.sz + u.sz
  | [], t, _ => ⟨by show u.dep ≤ _; have := t.dep_pos; simp; omega, by show u.sz ≤ _; omega⟩
  | k :: q, .var n, h => h.elim
  | k :: q, .app f ts, ⟨h1, t, ht, hp⟩ => by
    have ih := rep_dep u q t hp
    have e : ts.getD (k - 1).toNat u = t := by rw [List.getD_eq_getElem?_getD, ht]; rfl
    have hk : (k - 1).toNat < ts.length := (List.getElem?_eq_some_iff.mp ht).1
    have hd : ∀ (l : List Tm) (j : Nat) (x : Tm) (M : Nat), Tm.deps l ≤ M → x.dep ≤ M → Tm.deps (l.set j x) ≤ M := by
      intro l
      induction l with
      | nil => intro j x M h _; exact h
      | cons a r ih =>
        intro j x M h hx
        have h : max a.dep (Tm.deps r) ≤ M := h
        cases j with
        | zero => show max x.dep (Tm.deps r) ≤ M; omega
        | succ j => show max a.dep (Tm.deps (r.set j x)) ≤ M; have := ih j x M (by omega) hx; omega
    have hs : ∀ (l : List Tm) (j : Nat) (x y : Tm), l[j]? = some y → Tm.szs (l.set j x) + y.sz = Tm.szs l + x.sz := by
      intro l
      induction l with
      | nil => intro j x y h; simp at h
      | cons a r ih =>
        intro j x y h
        cases j with
        | zero =>
          have h : a = y := by simpa using h
          subst h
          show x.sz + Tm.szs r + a.sz = a.sz + Tm.szs r + x.sz
          omega
        | succ j =>
          have := ih j x y (by simpa using h)
          show a.sz + Tm.szs (r.set j x) + y.sz = a.sz + Tm.szs r + x.sz
          omega
    have hm := Tm.dep_of_mem (List.mem_of_getElem? ht)
    refine ⟨?_, ?_⟩
    · show 1 + Tm.deps (ts.set (k - 1).toNat (rep u q (ts.getD (k - 1).toNat u))) ≤ max (1 + Tm.deps ts) (q.length + 1 + u.dep)
      rw [e]
      have := hd ts (k - 1).toNat (rep u q t) (max (Tm.deps ts) (q.length + u.dep)) (by omega) (by omega)
      omega
    · show 1 + Tm.szs (ts.set (k - 1).toNat (rep u q (ts.getD (k - 1).toNat u))) ≤ 1 + Tm.szs ts + u.sz
      rw [e]
      have := hs ts (k - 1).toNat (rep u q t) t ht
      omega
theorem at_cons_app {k : Int} {q : List Int} {f : Str} {ts : List Tm} : at? (k :: q) (.app f ts) = if 1 ≤ k then (ts[(k - 1).toNat]?).bind (at? q) else none := rfl
theorem at_app : ∀ (a b : List Int) (t : Tm), at? (a ++ b) t = (at? a t).bind (at? b)
  | [], _, _ => rfl
  | k :: a, b, .var _ => rfl
  | k :: a, b, .app f ts => by
    show at? (k :: (a ++ b)) (.app f ts) = _
    rw [at_cons_app, at_cons_app]
    by_cases h : 1 ≤ k
    · rw [if_pos h, if_pos h]
      cases ts[(k - 1).toNat]? with
      | none => rfl
      | some t => exact at_app a b t
    · rw [if_neg h, if_neg h]; rfl
theorem isPos_at : ∀ (q : List Int) (t : Tm), IsPos q t ↔ ∃ u, at? q t = some u
  | [], t => ⟨fun _ => ⟨t, rfl⟩, fun _ => trivial⟩
  | k :: q, .var _ => ⟨fun h => h.elim, fun ⟨_, h⟩ => nomatch h⟩
  | k :: q, .app f ts => by
    rw [at_cons_app]
    constructor
    · rintro ⟨h1, t, ht, hp⟩
      obtain ⟨u, hu⟩ := (isPos_at q t).mp hp
      exact ⟨u, by rw [if_pos h1, ht]; exact hu⟩
    · rintro ⟨u, hu⟩
      by_cases h : 1 ≤ k
      · rw [if_pos h] at hu
        cases e : ts[(k - 1).toNat]? with
        | none => rw [e] at hu; cases hu
        | some t => rw [e] at hu; exact ⟨h, t, e, (isPos_at q t).mpr ⟨u, hu⟩⟩
      · rw [if_neg h] at hu; cases hu
theorem isPos_app (a b : List Int) (t : Tm) : IsPos (a ++ b) t ↔ ∃ u, at? a t = some u ∧ IsPos b u := by
  rw [isPos_at, at_app]
  constructor
  · rintro ⟨w, hw⟩
    cases e : at? a t with
    | none => rw [e] at hw; cases hw
    | some u => rw [e] at hw; exact ⟨u, rfl, (isPos_at b u).mpr ⟨w, hw⟩⟩
  · rintro ⟨u, hu, hb⟩
    rw [hu]
    exact (isPos_at b u).mp hb
theorem isPos_take {q : List Int} {t : Tm} (h : IsPos q t) (i : Nat) : ∃ u, at? (q.take i) t = some u := by
  have := (isPos_app (q.take i) (q.drop i) t).mp (by rw [List.take_append_drop]; exact h)
  obtain ⟨u, hu, _⟩ := this
  exact ⟨u, hu⟩
/-- a child -/
theorem isPos_one {k : Int} {t : Tm} : IsPos [k] t ↔ ∃ f ts u, t = .app f ts ∧ 1 ≤ k ∧ ts[(k - 1).toNat]? = some u := by
  cases t with
  | var n => exact ⟨fun h => h.elim, fun ⟨_, _, _, h, _⟩ => nomatch h⟩
  | app f ts => exact ⟨fun ⟨h1, u, hu, _⟩ => ⟨f, ts, u, rfl, h1, hu⟩, fun ⟨_, _, u, e, h1, hu⟩ => by cases e; exact ⟨h1, u, hu, trivial⟩⟩
theorem at_step {q : List Int} {t w : Tm} {i : Nat} {k : Int} (hk : q[i]? = some k) (hw : at? (q.take i) t = some w) : at? (q.take (i + 1)) t = at? [k] w := by
  rw [list_take_succ hk, at_app, hw]; rfl
/-- put in, and take out -/
theorem at_rep (u : Tm) : ∀ (q : List Int) (t : Tm), IsPos q t → at? q (rep u q t) = some u
  | [], _, _ => rfl
  | k :: q, .var _, h => h.elim
  | k :: q, .app f ts, ⟨h1, t, ht, hp⟩ => by
    have hk := (List.getElem?_eq_some_iff.mp ht).1
    have e : ts.getD (k - 1).toNat u = t := by rw [List.getD_eq_getElem?_getD, ht]; rfl
    show at? (k :: q) (.app f (ts.set (k - 1).toNat (rep u q (ts.getD (k - 1).toNat u)))) = _
    rw [at_cons_app, if_pos h1, List.getElem?_set_self hk, e]
    exact at_rep u q t hp
theorem isPos_rep {u : Tm} {q : List Int} {t : Tm} (h : IsPos q t) : IsPos q (rep u q t) := (isPos_at q _).mpr ⟨u, at_rep u q t h⟩
theorem rep_back (u s : Tm) : ∀ (q : List Int) (t : Tm), at? q t = some s → rep s q (rep u q t) = t
  | [], t, h => (Option.some.inj h).symm
  | k :: q, .var _, h => nomatch h
  | k :: q, .app f ts, h => by
    rw [at_cons_app] at h
    by_cases h1 : 1 ≤ k
    · rw [if_pos h1] at h
      cases ht : ts[(k - 1).toNat]? with
      | none => rw [ht] at h; cases h
      | some t =>
        rw [ht] at h
        have hk := (List.getElem?_eq_some_iff.mp ht).1
        have e : ts.getD (k - 1).toNat u = t := by rw [List.getD_eq_getElem?_getD, ht]; rfl
        have ih := rep_back u s q t h
        show Tm.app f ((ts.set (k - 1).toNat (rep u q (ts.getD (k - 1).toNat u))).set (k - 1).toNat (rep s q ((ts.set (k - 1).toNat (rep u q (ts.getD (k - 1).toNat u))).getD (k - 1).toNat s))) = _
        have e2 : (ts.set (k - 1).toNat (rep u q (ts.getD (k - 1).toNat u))).getD (k - 1).toNat s = rep u q t := by
          rw [List.getD_eq_getElem?_getD, List.getElem?_set_self hk, e]; rfl
        rw [e2, ih, List.set_set, ← (List.getElem?_eq_some_iff.mp ht).2, List.set_getElem_self]
    · rw [if_neg h1] at h; cases h
theorem rep_step {u w c : Tm} {q : List Int} {k : Int} {i : Nat} {t : Tm} (hk : q[i]? = some k) (hw : at? (q.take i) t = some w) (hc : at? (q.take (i + 1)) t = some c) :
    ∃ f ts, w = .app f ts ∧ 1 ≤ k ∧ ts[(k - 1).toNat]? = some c ∧ rep u (q.drop i) w = .app f (ts.set (k - 1).toNat (rep u (q.drop (i + 1)) c)) := by
  rw [at_step hk hw] at hc
  obtain ⟨f, ts, c', rfl, h1, h2⟩ := isPos_one.mp ((isPos_at [k] w).mpr ⟨c, hc⟩)
  have hi := (List.getElem?_eq_some_iff.mp hk)
  rw [at_cons_app, if_pos h1, h2] at hc
  have hc : some c' = some c := hc
  cases hc
  refine ⟨f, ts, rfl, h1, h2, ?_⟩
  have e : q.drop i = k :: q.drop (i + 1) := by
    obtain ⟨hi, rfl⟩ := hi
    exact (List.drop_eq_getElem_cons hi)
  rw [e]
  show Tm.app f (ts.set (k - 1).toNat (rep u (q.drop (i + 1)) (ts.getD (k - 1).toNat u))) = _
  rw [List.getD_eq_getElem?_getD, h2]; rfl
theorem at_sz : ∀ (q : List Int) (t u : Tm), at? q t = some u → u.sz ≤ t.sz ∧ u.dep ≤ t.dep
  | [], t, u, h => by cases (show some t = some u from h); exact ⟨Nat.le_refl _, Nat.le_refl _⟩
  | k :: q, .var _, _, h => nomatch h
  | k :: q, .app f ts, u, h => by
    rw [at_cons_app] at h
    by_cases h1 : 1 ≤ k
    · rw [if_pos h1] at h
      cases ht : ts[(k - 1).toNat]? with
      | none => rw [ht] at h; cases h
      | some t =>
        rw [ht] at h
        have ih := at_sz q t u h
        have hm := List.mem_of_getElem? ht
        have h2 := Tm.dep_of_mem hm
        have h3 := Tm.sz_arg hm
        exact ⟨by show u.sz ≤ 1 + Tm.szs ts; omega, by show u.dep ≤ 1 + Tm.deps ts; omega⟩
    · rw [if_neg h1] at h; cases h
/-- pairs of a position and a term, on a stack -/
def PairIn (H : Hp) (v : V) (x : List Int × Tm) : Prop := ∃ (b c : Addr) (u : V), v = .ref b ∧ H b = some (.tup [.ref c, u]) ∧ H c = some (.tup (x.1.map V.int)) ∧ TmIn H x.2 u
def StkIn (H : Hp) (ws : List V) (S : List (List Int × Tm)) : Prop := ws.length = S.length ∧ ∀ (k : Nat) (v : V) (x : List Int × Tm), ws[k]? = some v → S[k]? = some x → PairIn H v x
theorem PairIn.tu {H H' : Hp} {v : V} {x : List Int × Tm} (h : PairIn H v x) (t : Tu H H') : PairIn H' v x := by
  obtain ⟨b, c, u, rfl, h1, h2, h3⟩ := h
  exact ⟨b, c, u, rfl, t _ _ h1, t _ _ h2, h3.tu t⟩
theorem StkIn.tu {H H' : Hp} {ws : List V} {S : List (List Int × Tm)} (h : StkIn H ws S) (t : Tu H H') : StkIn H' ws S := ⟨h.1, fun k v x e1 e2 => (h.2 k v x e1 e2).tu t⟩
theorem StkIn.snoc {H : Hp} {ws : List V} {S : List (List Int × Tm)} (h : StkIn H ws S) {v : V} {x : List Int × Tm} (hv : PairIn H v x) : StkIn H (ws ++ [v]) (S ++ [x]) := by
  refine ⟨by rw [List.length_append, List.length_append, h.1]; rfl, fun k u y e1 e2 => ?_⟩
  by_cases hk : k < ws.length
  · rw [List.getElem?_append_left hk] at e1
    rw [List.getElem?_append_left (by have := h.1; omega)] at e2
    exact h.2 k u y e1 e2
  · have h4 := (List.getElem?_eq_some_iff.mp e1).1
    rw [List.length_append, List.length_singleton] at h4
    have ek : k = ws.length := by omega
    subst ek
    rw [List.getElem?_append_right (Nat.le_refl _), Nat.sub_self] at e1
    rw [List.getElem?_append_right (by have := h.1; omega), h.1, Nat.sub_self] at e2
    cases e1; cases e2
    exact hv
theorem StkIn.pop {H : Hp} {ws : List V} {S : List (List Int × Tm)} (h : StkIn H ws S) (n : ws ≠ []) : ∃ v S' x, ws[ws.length - 1]? = some v ∧ S = S' ++ [x] ∧ PairIn H v x ∧ StkIn H ws.dropLast S' := by
  have l := h.1
  have hw : 0 < ws.length := List.length_pos_iff.mpr n
  have hS : S ≠ [] := fun z => by rw [z] at l; simp at l; exact n l
  obtain ⟨S', x, rfl⟩ : ∃ S' x, S = S' ++ [x] := ⟨S.dropLast, S.getLast hS, (List.dropLast_concat_getLast hS).symm⟩
  rw [List.length_append, List.length_singleton] at l
  have hl : ws.length - 1 < ws.length := by omega
  have e1 := List.getElem?_eq_getElem hl
  refine ⟨_, S', x, e1, rfl, h.2 _ _ x e1 (by rw [List.getElem?_append_right (by omega), show ws.length - 1 - S'.length = 0 by omega]; rfl), by rw [List.length_dropLast]; omega, fun k v y g1 g2 => ?_⟩
  rw [List.getElem?_dropLast] at g1
  by_cases hk : k < ws.length - 1
  · rw [if_pos hk] at g1
    exact h.2 k v y g1 (by rw [List.getElem?_append_left (by omega)]; exact g2)
  · rw [if_neg hk] at g1; cases g1
def posOf : List (List Int × Tm) → List (List Int)
  | [] => []
  | x :: r => (poss x.2).map (fun z => x.1 ++ z) ++ posOf r
def kids (q : List Int) : Nat → List Tm → List (List Int × Tm)
  | _, [] => []
  | k, t :: ts => (q ++ [(k : Int)], t) :: kids q (k + 1) ts
def szOf (S : List (List Int × Tm)) : Nat := (S.map fun x => x.2.sz).sum
theorem posOf_app (a b : List (List Int × Tm)) : posOf (a ++ b) = posOf a ++ posOf b := by
  induction a with
  | nil => rfl
  | cons x a ih => show (poss x.2).map (fun z => x.1 ++ z) ++ posOf (a ++ b) = _; rw [ih, ← List.append_assoc]; rfl
theorem posOf_len (a : List (List Int × Tm)) : (posOf a).length = szOf a := by
  induction a with
  | nil => rfl
  | cons x a ih => show ((poss x.2).map (fun z => x.1 ++ z) ++ posOf a).length = x.2.sz + szOf a; rw [List.length_append, List.length_map, poss_len, ih]
theorem szOf_app (a b : List (List Int × Tm)) : szOf (a ++ b) = szOf a + szOf b := by unfold szOf; rw [List.map_append, List.sum_append]
theorem szOf_rev (a : List (List Int × Tm)) : szOf a.reverse = szOf a := by
  induction a with
  | nil => rfl
  | cons x a ih =>
    rw [List.reverse_cons, szOf_app, ih]
    show szOf a + (x.2.sz + 0) = x.2.sz + szOf a
    omega
theorem len_szOf (a : List (List Int × Tm)) : a.length ≤ szOf a := by
  induction a with
  | nil => exact Nat.le_refl _
  | cons x a ih => have := x.2.sz_pos; show a.length + 1 ≤ x.2.sz + szOf a; omega
theorem posOf_kids (q : List Int) : ∀ (ts : List Tm) (k : Nat), posOf (kids q k ts) = (posss k ts).map (fun z => q ++ z)
  | [], _ => rfl
  | t :: ts, k => by
    show (poss t).map (fun z => (q ++ [(k : Int)]) ++ z) ++ posOf (kids q (k + 1) ts) = ((poss t).map (fun z => (k : Int) :: z) ++ posss (k + 1) ts).map (fun z => q ++ z)
    rw [posOf_kids q ts, List.map_append, List.map_map]
    congr 1
    refine List.map_congr_left fun z _ => ?_
    show (q ++ [(k : Int)]) ++ z = q ++ ((k : Int) :: z)
    rw [List.append_assoc]; rfl
theorem kids_len (q : List Int) : ∀ (ts : List Tm) (k : Nat), (kids q k ts).length = ts.length
  | [], _ => rfl
  | _ :: ts, k => congrArg (· + 1) (kids_len q ts (k + 1))
theorem kids_get (q : List Int) : ∀ (ts : List Tm) (k i : Nat) (t : Tm), ts[i]? = some t → (kids q k ts)[i]? = some (q ++ [((k + i : Nat) : Int)], t)
  | [], _, _, _, h => by simp at h
  | _ :: _, k, 0, _, h => by cases h; rfl
  | _ :: ts, k, i + 1, t, h => by
    have := kids_get q ts (k + 1) i t h
    rw [show k + 1 + i = k + (i + 1) by omega] at this
    exact this
theorem kids_sz (q : List Int) : ∀ (ts : List Tm) (k : Nat), szOf (kids q k ts) = Tm.szs ts
  | [], _ => rfl
  | t :: ts, k => by show t.sz + szOf (kids q (k + 1) ts) = t.sz + Tm.szs ts; rw [kids_sz q ts]
theorem rep_wf {fs : List Str} {B : Int} {u : Tm} (wu : u.wf fs B) : ∀ (q : List Int) (t : Tm), t.wf fs B → IsPos q t → (rep u q t).wf fs B
  | [], _, _, _ => wu
  | _ :: _, .var _, _, h => h.elim
  | k :: q, .app f ts, w, ⟨h1, t, ht, hp⟩ => by
    obtain ⟨⟨i, i1, i2⟩, w⟩ := (show (∃ k, fs[k]? = some f ∧ ts.length = ar k) ∧ Tm.wfs fs B ts from w)
    have e : ts.getD (k - 1).toNat u = t := by rw [List.getD_eq_getElem?_getD, ht]; rfl
    have ih := rep_wf wu q t (Tm.wf_of_mem w (List.mem_of_getElem? ht)) hp
    show (∃ k', fs[k']? = some f ∧ (ts.set (k - 1).toNat (rep u q (ts.getD (k - 1).toNat u))).length = ar k') ∧ Tm.wfs fs B (ts.set (k - 1).toNat (rep u q (ts.getD (k - 1).toNat u)))
    rw [e]
    refine ⟨⟨i, i1, by rw [List.length_set]; exact i2⟩, Tm.wfs_of fun x hx => ?_⟩
    rcases List.mem_or_eq_of_mem_set hx with h | h
    · exact Tm.wf_of_mem w h
    · rw [h]; exact ih
end J

/-! ### canonical forms -/
namespace J
open PySem L2
/-- the place of n in u, counted from k -/
def ix : Nat → List Int → Int → Option Nat
  | _, [], _ => none
  | k, a :: r, n => if a = n then some k else ix (k + 1) r n
/-- the dict that numbers u from k on -/
def knf : Nat → List Int → List (Key × V)
  | _, [] => []
  | k, a :: r => (.inl a, .int (k : Int)) :: knf (k + 1) r
def rnm (u : List Int) : Int → Option Tm := fun n => (ix 0 u n).map fun (k : Nat) => Tm.var (k : Int)
theorem knf_val : ∀ (u : List Int) (k : Nat) (n : Int), valV (knf k u) (.inl n) = (ix k u n).map fun (j : Nat) => V.int (j : Int)
  | [], _, _ => rfl
  | a :: r, k, n => by
    by_cases h : a = n
    · subst h
      show valV (((.inl a : Key), V.int (k : Int)) :: knf (k + 1) r) (.inl a) = (if a = a then some k else _).map _
      rw [if_pos rfl]
      exact valV_pos (p := ((.inl a : Key), V.int (k : Int))) rfl
    · have e : ¬ ((Sum.inl a : Key) = .inl n) := fun z => h (Sum.inl.inj z)
      show valV (((.inl a : Key), V.int (k : Int)) :: knf (k + 1) r) (.inl n) = (if a = n then some k else ix (k + 1) r n).map _
      rw [if_neg h, valV_neg e, knf_val r]
theorem knf_len : ∀ (u : List Int) (k : Nat), (knf k u).length = u.length
  | [], _ => rfl
  | _ :: r, k => by show (knf (k + 1) r).length + 1 = r.length + 1; rw [knf_len r]
theorem ix_none : ∀ (u : List Int) (k : Nat) (n : Int), ix k u n = none ↔ n ∉ u
  | [], _, n => by show none = none ↔ _; simp
  | a :: r, k, n => by
    show (if a = n then some k else ix (k + 1) r n) = none ↔ _
    by_cases h : a = n
    · rw [if_pos h]; subst h; simp
    · rw [if_neg h, ix_none r, List.mem_cons, not_or]
      exact ⟨fun z => ⟨fun w => h w.symm, z⟩, fun z => z.2⟩
theorem knf_snoc : ∀ (u : List Int) (k : Nat) (n : Int), knf k (u ++ [n]) = knf k u ++ [(.inl n, .int ((k + u.length : Nat) : Int))]
  | [], _, _ => rfl
  | a :: r, k, n => by
    show ((.inl a : Key), V.int (k : Int)) :: knf (k + 1) (r ++ [n]) = ((.inl a : Key), V.int (k : Int)) :: (knf (k + 1) r ++ _)
    rw [knf_snoc r, show k + 1 + r.length = k + (a :: r).length by rw [List.length_cons]; omega]
theorem knf_put {u : List Int} {n : Int} (h : n ∉ u) : putK (knf 0 u) (.inl n) (.int (u.length : Int)) = knf 0 (u ++ [n]) := by
  rw [putK_new _ (by rw [knf_val, (ix_none u 0 n).mpr h]; rfl), knf_snoc, Nat.zero_add]
theorem rnm_in {H : Hp} {d : Addr} {u : List Int} (h : H d = some (.dK (knf 0 u))) : SbIn H d (rnm u) := by
  refine ⟨_, h, fun n => ?_⟩
  unfold rnm
  rw [knf_val]
  cases ix 0 u n with
  | none => rfl
  | some k => exact ⟨_, rfl, rfl⟩
def both (l r : Tm) : List Int := adds [] (vars l ++ vars r)
def canon (l r : Tm) : Tm × Tm := (sub (rnm (both l r)) l, sub (rnm (both l r)) r)
/-- variables renamed by g -/
def ren (g : Int → Int) (t : Tm) : Tm := sub (fun n => some (.var (g n))) t
theorem vars_mem (t : Tm) (n : Int) : n ∈ vars t ↔ n ∈ occ t := by
  unfold vars
  rw [adds_mem]
  simp
theorem both_mem (l r : Tm) (n : Int) : n ∈ both l r ↔ n ∈ occ l ∨ n ∈ occ r := by
  unfold both
  rw [adds_mem, List.mem_append, vars_mem, vars_mem]
  simp
theorem both_occ (l r : Tm) : both l r = adds [] (occ l ++ occ r) := by
  unfold both vars
  rw [adds_app, adds_app, adds_two, adds_two]
  rfl
mutual
theorem occ_sub (m : Int → Option Tm) (g : Int → Int) : ∀ t : Tm, (∀ n ∈ occ t, m n = some (.var (g n))) → occ (sub m t) = (occ t).map g
  | .var n, h => by
    show occ ((m n).getD (.var n)) = _
    rw [h n (List.mem_singleton.mpr rfl)]; rfl
  | .app f ts, h => by show occs (subs m ts) = (occs ts).map g; exact occs_sub m g ts h
theorem occs_sub (m : Int → Option Tm) (g : Int → Int) : ∀ ts : List Tm, (∀ n ∈ occs ts, m n = some (.var (g n))) → occs (subs m ts) = (occs ts).map g
  | [], _ => rfl
  | t :: ts, h => by
    show occ (sub m t) ++ occs (subs m ts) = (occ t ++ occs ts).map g
    rw [occ_sub m g t fun n hn => h n (List.mem_append.mpr (.inl hn)), occs_sub m g ts fun n hn => h n (List.mem_append.mpr (.inr hn)), List.map_append]
end
theorem adds_map (g : Int → Int) : ∀ (l acc : List Int), (∀ a ∈ acc ++ l, ∀ b ∈ acc ++ l, g a = g b → a = b) → adds (acc.map g) (l.map g) = (adds acc l).map g
  | [], _, _ => rfl
  | n :: r, acc, inj => by
    show adds (if g n ∈ acc.map g then acc.map g else acc.map g ++ [g n]) (r.map g) = (adds (if n ∈ acc then acc else acc ++ [n]) r).map g
    by_cases h : n ∈ acc
    · rw [if_pos h, if_pos (List.mem_map.mpr ⟨n, h, rfl⟩)]
      exact adds_map g r acc fun a ha b hb => inj a (by simp at ha ⊢; rcases ha with z | z <;> simp [z]) b (by simp at hb ⊢; rcases hb with z | z <;> simp [z])
    · have h2 : g n ∉ acc.map g := fun z => by
        obtain ⟨a, ha, e⟩ := List.mem_map.mp z
        have := inj a (List.mem_append.mpr (.inl ha)) n (by simp) e
        exact h (this ▸ ha)
      rw [if_neg h, if_neg h2]
      have e : acc.map g ++ [g n] = (acc ++ [n]).map g := by rw [List.map_append]; rfl
      rw [e]
      exact adds_map g r (acc ++ [n]) fun a ha b hb => inj a (by rw [List.append_assoc] at ha; exact ha) b (by rw [List.append_assoc] at hb; exact hb)
theorem ix_map (g : Int → Int) : ∀ (u : List Int) (k : Nat) (n : Int), (∀ a ∈ u, g a = g n → a = n) → ix k (u.map g) (g n) = ix k u n
  | [], _, _, _ => rfl
  | a :: r, k, n, inj => by
    show (if g a = g n then some k else ix (k + 1) (r.map g) (g n)) = (if a = n then some k else ix (k + 1) r n)
    by_cases h : a = n
    · rw [if_pos h, if_pos (by rw [h])]
    · rw [if_neg h, if_neg fun z => h (inj a (List.mem_cons_self ..) z)]
      exact ix_map g r (k + 1) n fun b hb => inj b (List.mem_cons_of_mem _ hb)
mutual
theorem sub_ren (m m' : Int → Option Tm) (g : Int → Int) (v : Int → Option Tm) : ∀ t : Tm, (∀ n ∈ occ t, v n = some (.var (g n)) ∧ ((m' (g n)).getD (.var (g n))) = ((m n).getD (.var n))) → sub m' (sub v t) = sub m t
  | .var n, h => by
    obtain ⟨h1, h2⟩ := h n (List.mem_singleton.mpr rfl)
    show sub m' ((v n).getD (.var n)) = (m n).getD (.var n)
    rw [h1, ← h2]; rfl
  | .app f ts, h => by show Tm.app f (subs m' (subs v ts)) = .app f (subs m ts); rw [subs_ren m m' g v ts h]
theorem subs_ren (m m' : Int → Option Tm) (g : Int → Int) (v : Int → Option Tm) : ∀ ts : List Tm, (∀ n ∈ occs ts, v n = some (.var (g n)) ∧ ((m' (g n)).getD (.var (g n))) = ((m n).getD (.var n))) → subs m' (subs v ts) = subs m ts
  | [], _ => rfl
  | t :: ts, h => by
    show sub m' (sub v t) :: subs m' (subs v ts) = sub m t :: subs m ts
    rw [sub_ren m m' g v t fun n hn => h n (List.mem_append.mpr (.inl hn)), subs_ren m m' g v ts fun n hn => h n (List.mem_append.mpr (.inr hn))]
end
/-- renaming does not change the canonical form -/
theorem canon_ren {l r : Tm} (v : Int → Option Tm) (g : Int → Int) (hv : ∀ n, n ∈ occ l ∨ n ∈ occ r → v n = some (.var (g n)))
    (inj : ∀ a b, (a ∈ occ l ∨ a ∈ occ r) → (b ∈ occ l ∨ b ∈ occ r) → g a = g b → a = b) : canon (sub v l) (sub v r) = canon l r := by
  have e : both (sub v l) (sub v r) = (both l r).map g := by
    rw [both_occ, both_occ, occ_sub v g l fun n hn => hv n (.inl hn), occ_sub v g r fun n hn => hv n (.inr hn), ← List.map_append]
    exact adds_map g _ [] fun a ha b hb => inj a b (List.mem_append.mp ha) (List.mem_append.mp hb)
  unfold canon
  rw [e]
  have key : ∀ n, n ∈ occ l ∨ n ∈ occ r → ((rnm ((both l r).map g) (g n)).getD (.var (g n))) = ((rnm (both l r) n).getD (.var n)) := by
    intro n hn
    unfold rnm
    rw [ix_map g _ 0 n fun a ha => inj a n ((both_mem l r a).mp ha) hn]
    cases h : ix 0 (both l r) n with
    | none => exact absurd ((both_mem l r n).mpr hn) ((ix_none _ _ _).mp h)
    | some k => rfl
  rw [sub_ren (rnm (both l r)) _ g v l fun n hn => ⟨hv n (.inl hn), key n (.inl hn)⟩, sub_ren (rnm (both l r)) _ g v r fun n hn => ⟨hv n (.inr hn), key n (.inr hn)⟩]
theorem ix_lt : ∀ (u : List Int) (k : Nat) (n : Int) (j : Nat), ix k u n = some j → k ≤ j ∧ u[j - k]? = some n
  | [], _, _, _, h => nomatch h
  | a :: r, k, n, j, h => by
    have h : (if a = n then some k else ix (k + 1) r n) = some j := h
    by_cases e : a = n
    · rw [if_pos e] at h; cases h
      exact ⟨Nat.le_refl _, by rw [Nat.sub_self, e]; rfl⟩
    · rw [if_neg e] at h
      have := ix_lt r (k + 1) n j h
      refine ⟨by omega, ?_⟩
      rw [show j - k = (j - (k + 1)) + 1 by omega, List.getElem?_cons_succ]
      exact this.2
theorem canon_twice (l r : Tm) : canon (canon l r).1 (canon l r).2 = canon l r := by
  let g : Int → Int := fun n => match ix 0 (both l r) n with | some k => (k : Int) | none => n
  have some_of : ∀ n, n ∈ occ l ∨ n ∈ occ r → ∃ k, ix 0 (both l r) n = some k := fun n hn => by
    cases h : ix 0 (both l r) n with
    | none => exact absurd ((both_mem l r n).mpr hn) ((ix_none _ _ _).mp h)
    | some k => exact ⟨k, rfl⟩
  refine canon_ren (rnm (both l r)) g (fun n hn => ?_) fun a b ha hb e => ?_
  · obtain ⟨k, hk⟩ := some_of n hn
    show (ix 0 (both l r) n).map (fun (k : Nat) => Tm.var (k : Int)) = some (Tm.var (match ix 0 (both l r) n with | some k => (k : Int) | none => n))
    rw [hk]; rfl
  · obtain ⟨k, hk⟩ := some_of a ha
    obtain ⟨j, hj⟩ := some_of b hb
    have e : (match ix 0 (both l r) a with | some k => (k : Int) | none => a) = (match ix 0 (both l r) b with | some k => (k : Int) | none => b) := e
    rw [hk, hj] at e
    have e : (k : Int) = (j : Int) := e
    have h1 := (ix_lt _ _ _ _ hk).2
    have h2 := (ix_lt _ _ _ _ hj).2
    have : k = j := by omega
    rw [this] at h1
    rw [h1] at h2
    exact Option.some.inj h2
mutual
theorem sz_sub_var (m : Int → Option Tm) (hm : ∀ n t, m n = some t → t.sz = 1 ∧ t.dep = 1) : ∀ t : Tm, (sub m t).sz = t.sz ∧ (sub m t).dep = t.dep
  | .var n => by
    show ((m n).getD (.var n)).sz = 1 ∧ ((m n).getD (.var n)).dep = 1
    cases h : m n with
    | none => exact ⟨rfl, rfl⟩
    | some t => exact hm n t h
  | .app f ts => by
    have := szs_sub_var m hm ts
    exact ⟨by show 1 + Tm.szs (subs m ts) = 1 + Tm.szs ts; rw [this.1], by show 1 + Tm.deps (subs m ts) = 1 + Tm.deps ts; rw [this.2]⟩
theorem szs_sub_var (m : Int → Option Tm) (hm : ∀ n t, m n = some t → t.sz = 1 ∧ t.dep = 1) : ∀ ts : List Tm, Tm.szs (subs m ts) = Tm.szs ts ∧ Tm.deps (subs m ts) = Tm.deps ts
  | [] => ⟨rfl, rfl⟩
  | t :: ts => by
    have h1 := sz_sub_var m hm t
    have h2 := szs_sub_var m hm ts
    exact ⟨by show (sub m t).sz + Tm.szs (subs m ts) = t.sz + Tm.szs ts; rw [h1.1, h2.1], by show max (sub m t).dep (Tm.deps (subs m ts)) = max t.dep (Tm.deps ts); rw [h1.2, h2.2]⟩
end
theorem rnm_var (u : List Int) (n : Int) (t : Tm) (h : rnm u n = some t) : t.sz = 1 ∧ t.dep = 1 := by
  unfold rnm at h
  cases e : ix 0 u n with
  | none => rw [e] at h; cases h
  | some k => rw [e] at h; cases h; exact ⟨rfl, rfl⟩
mutual
theorem occ_wf {fs : List Str} {B : Int} : ∀ t : Tm, t.wf fs B → ∀ n ∈ occ t, 0 ≤ n ∧ n < B
  | .var k, w, n, h => by rw [List.mem_singleton.mp h]; exact w
  | .app f ts, w, n, h => occs_wf ts w.2 n h
theorem occs_wf {fs : List Str} {B : Int} : ∀ ts : List Tm, Tm.wfs fs B ts → ∀ n ∈ occs ts, 0 ≤ n ∧ n < B
  | [], _, _, h => nomatch h
  | t :: ts, w, n, h => by
    rcases List.mem_append.mp (show n ∈ occ t ++ occs ts from h) with h | h
    · exact occ_wf t w.1 n h
    · exact occs_wf ts w.2 n h
end
end J

/-! ### errors of the program's own classes -/
namespace J
open PySem L2 PyProof.Rows
def veB : List Value := [.type "ValueError", .type "Exception", .type "BaseException", .type "object"]
/-- an error class without an __init__ of its own -/
structure ErrC (K : PySem.W.Frag) (mg : Str → Option Value) (x : Str) (C : Addr) : Prop where
  gC : mg x = some (.ref C)
  kC : PySem.W.keepIn K (.ref C) = true
  xC : PySem.W.excIn K C [.type "ValueError", .type "Exception", .type "BaseException", .type "object"] "ValueError.__new__" = true
  bC : PySem.W.subIn K (.ref C) (.type "BaseException") = some true
  tC : PySem.W.typeIn K (.ref C) = some (.type "type")
  eC : PySem.W.exmOne K (.ref C) (.ref C) = some true
  dC : ExcC K C
theorem err_mk {K : PySem.W.Frag} {h : Heap} {mg : Str → Option Value} {x : Str} {C : Addr} (X : K.In h) (G : h.Ns mainGlobals mg)
    (a : PySem.W.nsIn K mainGlobals x = some (some (.ref C))) (k : PySem.W.keepIn K (.ref C) = true) (e : PySem.W.excIn K C [.type "ValueError", .type "Exception", .type "BaseException", .type "object"] "ValueError.__new__" = true)
    (b : PySem.W.subIn K (.ref C) (.type "BaseException") = some true) (t : PySem.W.typeIn K (.ref C) = some (.type "type")) (s : PySem.W.subIn K (.ref C) (.ref C) = some true)
    (hg : PySem.W.findIn K (.ref C) "__getattribute__" = some (some (.builtin "BaseException.__getattribute__"))) (hk : PySem.W.findIn K (.ref C) "__getattr__" = some none) (hd : PySem.W.hasDictIn K C = true)
    (ha : PySem.W.findIn K (.ref C) "__class__" = some (some (.builtin "object.__class__"))) (hn : PySem.W.specialIn K (.builtin "object.__class__") "__get__" = some (some (.builtin "getset_descriptor.__get__")))
    (ht : PySem.W.takesIn K (.builtin "object.__class__") = some true) (hm : PySem.W.mroIn K C (.type "object") = some true) : ErrC K mg x C :=
  ⟨PySem.W.mg_of X G a, k, e, b, t, PySem.W.exm_ref b hd t s, ⟨hg, hk, b, hd, ha, hn, ht, hm⟩⟩
section
variable {X : Cx} {C : Addr} {bmB : List Value} {B newId initId : String}
/-- X() -/
theorem pmk_own0 {x : Str} {p pos : Pos} (F : ExcBaseFacts B newId initId bmB) (q : PySem.W.excIn X.K C bmB newId = true) (gC : X.mg x = some (.ref C)) (kC : PySem.W.keepIn X.K (.ref C) = true) (r : Raises X (.ref C)) (hg : Gl X x)
    (hdb : (x == ("__debug__" : Str)) = false := by decide) : PMk X (.Call (.Name x p) [] [] pos) (fun _ H Q => Q (.ref C) none H) := by
  intro pins s σ H Q I h
  refine wpAny_Call_Name_kw (ld_glob I hg gC ?_ hdb)
  refine PySem.W.callWith_K0 I.kIn kC ?_
  show wpAny _ _ (call (.ref C) []) _ _ _
  obtain ⟨bm, N, nm, qn, bs, hdct, sn, sub, ab, col, dd, k0, k1, k2, k3, k5, mN, hC, hN, hni, T⟩ := exc_obj I.kIn q
  refine wpAny_call_exc_subT F T hC hN hni (fun h' e hm => ?_) (by show 0 ≤ sizeLine; omega)
  exact mk_of I hm r h (I.hok.gone hm.new)
theorem pss_assume {p : Prop} {sts : List Stmt} {t : TS} (h : p → PSs X sts t) : PSs X sts (fun D σ H => p ∧ t D σ H) := ⟨fun pins s σ H D I ⟨hp, q⟩ => (h hp).run pins s σ H D I q⟩
/-- a call that lets nothing out -/
theorem no_raise {X : Cx} (σ : L2.St) : PassesAt (L2.CX X.prog X.w) X σ (fun _ _ _ => False) := fun _ _ _ _ _ _ c => by
  obtain ⟨_, _, _, _, _, _, _, _, _, _, _, _, h⟩ := c
  exact h.elim
end
end J

/-! ### range(i, j, -1) in a for -/
namespace J
open PySem L2
theorem down_ok {n : Nat} (h : n ≤ 1000000) : RgC ((n : Int) - 1) (-1) (-1) n := by
  have := RgC.neg (i := (n : Int) - 1) (j := -1) (by omega) (by omega) (by decide) (by decide)
  have e : ((n : Int) - 1 - (-1)).toNat = n := by omega
  rw [e] at this
  exact this
theorem down0_ok {n : Nat} (h : n ≤ 1000000) : RgC (n : Int) 0 (-1) n := by
  have := RgC.neg (i := (n : Int)) (j := 0) (by omega) (by omega) (by decide) (by decide)
  have e : ((n : Int) - 0).toNat = n := by omega
  rw [e] at this
  exact this
theorem catA {K : PySem.W.Frag} {H : Hp} {a b : Addr} {xs ys : List V} {Q : VK} (ha : H a = some (.tup xs)) (hb : H b = some (.tup ys)) (hy : ys ≠ []) (hl : xs.length + ys.length ≤ sizeLine) (k : ∀ p H', Same H H' → H' p = some (.tup (xs ++ ys)) → Q (.ref p) H') : rCatA K (.ref a) (.ref b) H Q := by
  refine ⟨a, b, xs, ys, rfl, rfl, SqT.of ha, SqT.of hb, hl, fun z => ?_, fun _ z => absurd z hy, fun _ _ p hp => ?_⟩
  · refine k b H (Same.refl _) ?_
    rw [z]; exact hb
  · exact k p _ (al_same hp rfl) upd_same
/-- the slots, written out anew -/
theorem at_state {t : TS} {D : Ends} {σ σ' : L2.St} {H : Hp} (e : σ = σ') (h : t D σ' H) : t D σ H := e ▸ h
theorem catB {K : PySem.W.Frag} {H : Hp} {a b : Addr} {xs ys : List V} {Q : VK} (ha : H a = some (.tup xs)) (hb : H b = some (.tup ys)) (hl : xs.length + ys.length ≤ sizeLine) (k : ∀ p H', Same H H' → H' p = some (.tup (xs ++ ys)) → Q (.ref p) H') : rCatA K (.ref a) (.ref b) H Q := by
  refine ⟨a, b, xs, ys, rfl, rfl, SqT.of ha, SqT.of hb, hl, fun z => ?_, fun _ z => ?_, fun _ _ p hp => ?_⟩
  · refine k b H (Same.refl _) ?_
    rw [z]; exact hb
  · refine k a H (Same.refl _) ?_
    rw [z, List.append_nil]; exact ha
  · exact k p _ (al_same hp rfl) upd_same
end J

/-! ### errors of the program's own classes that have an __init__ -/
namespace J
open PySem L2 PyProof.Rows
/-- an error class whose __init__ is the def at f -/
structure ErrI (K : PySem.W.Frag) (mg : Str → Option Value) (x : Str) (C f : Addr) : Prop where
  gC : mg x = some (.ref C)
  kC : PySem.W.keepIn K (.ref C) = true
  bC : PySem.W.subIn K (.ref C) (.type "BaseException") = some true
  tC : PySem.W.typeIn K (.ref C) = some (.type "type")
  eC : PySem.W.exmOne K (.ref C) (.ref C) = some true
  dC : ExcC K C
  oC : OexC K C
  xC : XfC K C
  iC : PySem.W.findIn K (.ref C) "__init__" = some (some (.ref f))
  tI : PySem.W.typeIn K (.ref f) = some (.type "function")
theorem erri_mk {K : PySem.W.Frag} {h : Heap} {mg : Str → Option Value} {x : Str} {C f : Addr} (X : K.In h) (G : h.Ns mainGlobals mg)
    (a : PySem.W.nsIn K mainGlobals x = some (some (.ref C))) (k : PySem.W.keepIn K (.ref C) = true)
    (o : ∃ nm q N bs bm sn sub ab col dd k0 k1 k2 k3 k5, K.lookup C = some (excClassObj nm q C N bs bm true sn sub ab col dd k0 k1 k2 k3 k5 "ValueError.__new__") ∧ PySem.HandSPX.refsVE bm = true)
    (sa : PySem.W.findIn K (.ref C) "__setattr__" = some (some (.builtin "object.__setattr__")))
    (b : PySem.W.subIn K (.ref C) (.type "BaseException") = some true) (t : PySem.W.typeIn K (.ref C) = some (.type "type")) (s : PySem.W.subIn K (.ref C) (.ref C) = some true)
    (hg : PySem.W.findIn K (.ref C) "__getattribute__" = some (some (.builtin "BaseException.__getattribute__"))) (hk : PySem.W.findIn K (.ref C) "__getattr__" = some none) (hd : PySem.W.hasDictIn K C = true)
    (ha : PySem.W.findIn K (.ref C) "__class__" = some (some (.builtin "object.__class__"))) (hn : PySem.W.specialIn K (.builtin "object.__class__") "__get__" = some (some (.builtin "getset_descriptor.__get__")))
    (ht : PySem.W.takesIn K (.builtin "object.__class__") = some true) (hm : PySem.W.mroIn K C (.type "object") = some true)
    (i : PySem.W.findIn K (.ref C) "__init__" = some (some (.ref f))) (ti : PySem.W.typeIn K (.ref f) = some (.type "function")) : ErrI K mg x C f :=
  ⟨PySem.W.mg_of X G a, k, b, t, PySem.W.exm_ref b hd t s, ⟨hg, hk, b, hd, ha, hn, ht, hm⟩, ⟨o, sa, b, t, k⟩, ⟨hg, hk, b, hd⟩, i, ti⟩
/-- isinstance(e, c), e the exception of the class D that the suite holds, its fields at d -/
def rIsED (K : PySem.W.Frag) (D a : Addr) (d : Option Addr) : List V → Hp → VK → Prop := fun xs H Q => ∃ (c : V) (cv : Value) (b : Bool) (dd : Addr) (fs : List (Str × V)), xs = [.ref a, c] ∧ (∀ u, RelV c u → u = cv) ∧ PySem.W.kitOne K (.ref D) cv = some b ∧ d = some dd ∧ H dd = some (.xd fs) ∧ Q (.bl b) H
theorem call_isED {X : Cx} {a D : Addr} {d : Option Addr} {oe : Obj} {pn : List (Addr × Obj)} (C : ExcC X.K D) (hz : Zc (.ref D) d oe) (hf : ∃ vs, oe.data = .fields vs) : CallR (X.suite a ((a, oe) :: pn)) (.builtin "isinstance") (rIsED X.K D a d) := by
  intro pins s σ H xs us Q I r h
  obtain ⟨c, cv, b, dd, fs, rfl, hcv, e, ed, hx, q⟩ := h
  subst ed
  match us, r with
  | [ur, uc], .cons rx (.cons rt .nil) =>
    cases (show ur = Value.ref a from rx)
    cases hcv _ rt
    obtain ⟨hget, _⟩ := I.pin (a, oe) (List.mem_append.mpr (.inl List.mem_cons_self))
    obtain ⟨mA, hns, _⟩ := (show ObjOk X.prog X.w H s.heap dd (.xd fs) from I.hok dd _ hx)
    obtain ⟨od, ho, _⟩ := lookIn_ns hns
    obtain ⟨vs, hv⟩ := hf
    have J : PySem.W.InstAt s.heap a oe D (some od) := ⟨hget, hz.1, by unfold PySem.W.notCls; rw [hv], by rw [hz.2]; exact ho⟩
    have cl : (PySem.W.clsIn X.K D).isSome = true := by
      obtain ⟨cd, hc, _⟩ := PySem.W.any_some C.hd
      rw [hc]; rfl
    exact PySem.W.kia_one (PySem.W.kitx_exc cl C.hg C.hk C.hs C.ha C.hn C.ht C.hm) I.kIn J e (fun z => nomatch z) fun tk => ⟨.bl b, H, I.kept (t' := tk) fun _ _ z => z, rfl, q⟩
end J

/-! ### repr of data; a promise that holds while no repr is under way -/
namespace J
open PySem PySem.Spec PyProof.Rows L2
section
variable {P : Program} {w : World} {K : PySem.W.Frag} {mg : Str → Option Value} {base : Heap}
/-- the promise of a def, asked for only where nothing is being shown -/
structure Quiet (P : Program) (w : World) (K : PySem.W.Frag) (mg : Str → Option Value) (base : Heap) (k : Nat) (f : Addr) (fd : FuncData) (ps : List Str) (sp : Sp) : Prop where
  len : ∀ vs H Q E, sp vs H Q E → vs.length = ps.length
  run : ∀ (A : Around) (outer : List Env) (s : Shared) (H : Hp) (args : Args) (us : List Value) (vs : List V) (Q : VK) (E : XK), A.guards = some [] → Room k A → Env0 P w K mg base A outer s H → BindsTo s fd args (ps.zip us) → Vals vs us →
    sp vs H Q E → codeAny (model P w) A (.call (.ref f) args) (CR CX0 outer P w H s Q E) s
theorem quiet_of {x qual : Str} {st : Stmt} {f : Addr} {fd : FuncData} {N ps : List Str} {k : Nat} {sp : Sp} (F : Fun K x qual st f fd) (S : FnScope N ps (defScope st)) (len : ∀ vs H Q E, sp vs H Q E → vs.length = ps.length)
    (hbody : ∀ (cdv : Value) (A : Around) (outer : List Env) (s : Shared) (H : Hp) (vs : List V) (Q : VK) (E : XK), A.guards = some [] → Room k (A.deeper (envOfC qual (defScope st) s.heap.objs.size f cdv)) → sp vs H Q E →
      ∃ t, PSs (cxOf CX0 P w K mg base N qual (defScope st) f cdv A outer s H E).nox (defBody st) t ∧ t { nx := fun _ H' => Q .non H', rt := Q } (start N vs) H) : Quiet P w K mg base (k + 1) f fd ps sp := by
  obtain ⟨oc, od, kV, doc, pm, an, cdv, ct, osl, rfl, lk, hcd⟩ := F.ex
  refine ⟨len, fun A outer s H args us vs Q E hg hr e0 hb rv hsp => ?_⟩
  obtain ⟨t, ht, hq⟩ := hbody cdv A outer s H vs Q E hg (hr.deeper _) hsp
  have KX : K.In s.heap := e0.mod.kin.keeps fun b o e => (e0.bs b o e).1
  have par : ∀ y ∈ ps.zip us, (defScope st).names.lookup y.1 = some .local ∨ ((defScope st).names.lookup y.1 = some .cell ∧ ((cellsFrom (s.heap.objs.size + 1) (defScope st).names []).lookup y.1).isSome = true) := fun y hy =>
    (S.par y.1 (List.of_mem_zip (a := y.1) (b := y.2) hy).1).imp id fun q => ⟨q, PySem.W.cellsFrom_some _ _ _ (.inl q)⟩
  refine codeAny_call_function hr.depth (KX _ _ lk) rfl S.co S.gen rfl (PySem.W.codeRec_of KX hcd) (hb _ _ _ _ (wpAny_newFunctionEnv_cells S.kind par fun env he s1 x => ?_))
  subst he
  refine ⟨(e0.mod.nolimit.keeps fun b o e => (e0.bs b o e).1).keeps x.toInCall.keep, codeAny_func ?_⟩
  refine wpAny_mono (ht.nox.run [] s1 (start N vs) H _ (inv_start S hr.hd e0 (len _ _ _ _ hsp) rv x) hq) (fun fl s' hs => ?_) fun e s' hs => hs
  match fl, hs with
  | .ret u, ⟨v, σ', H', J, r, q⟩ => exact ⟨v, H', J.os, J.bare, J.base, J.hok, r, q⟩
  | .next, ⟨σ', H', J, q⟩ => exact ⟨.non, H', J.os, J.bare, J.base, J.hok, rfl, q⟩
  | .brk, ⟨_, _, _, q⟩ => exact q.elim
  | .cont, ⟨_, _, _, q⟩ => exact q.elim
end
section
variable {X : Cx} {k : Nat} {f : Addr} {fd : FuncData} {ps : List Str} {sp : Sp}
theorem quiet_run {pins : List (Addr × Obj)} {σ : L2.St} {H : Hp} {s : Shared} {Q : VK} {us : List Value} {vs : List V} (F : Quiet X.prog X.w X.K X.mg X.base k f fd ps sp) (hq : X.A.guards = some []) (hr : Room k X.A) (hb : Binds X.K fd ps [])
    (I : Inv X pins σ H s) (r : Vals vs us) (h : sp (vs ++ []) H Q E0) : wpAny (model X.prog X.w) X.A (call (.ref f) us) (EP X pins σ Q) X.xe s := by
  have r2 : Vals (vs ++ []) (us ++ []) := r.append .nil
  refine wpAny_call (codeAny_mono (F.run X.A X.stack s H ⟨us, []⟩ (us ++ []) (vs ++ []) Q E0 hq hr I.env0 (hb s us I.kIn (by rw [← r2.length]; exact F.len _ _ _ _ h)) r2 h) fun r s' z => ?_)
  match r, z with
  | .error _, z => exact z.elim
  | .ok (.ret u), z => exact I.after z
  | .ok .next, z => exact z.elim
  | .ok .brk, z => exact z.elim
  | .ok .cont, z => exact z.elim
theorem pe_callQ {x : Str} {p pos : Pos} {e : Expr} {es : List Expr} {t : TA} (F : Quiet X.prog X.w X.K X.mg X.base k f fd ps sp) (hq : X.A.guards = some []) (hr : Room k X.A) (hg : Gl X x) (hm : X.mg x = some (.ref f)) (hk : PySem.W.keepIn X.K (.ref f) = true) (hb : Binds X.K fd ps [])
    (ha : PA X (e :: es) t) (hdb : (x == ("__debug__" : Str)) = false := by decide) (he : starEach (e :: es) X.env = (false, eval e X.env) :: starEach es X.env := by rfl) (hpl : (backTo pos (starEach es X.env)).any (·.1) = false := by rfl) :
    PE X (.Call (.Name x p) (e :: es) [] pos) (tCall sp [] E0 t) :=
  ⟨fun pins s σ H Q I h => wpAny_Call_Name_kw (ld_glob I hg hm (PySem.W.callWith_K (h₀ := X.base) I.ok.mod.kin hk (thn (ha.run pos pins s σ H _ I h) fun us s1 ⟨vs, H1, I1, r, q⟩ => ⟨I1.kIn, quiet_run F hq hr hb I1 r q⟩) he hpl) hdb)⟩
/-- repr of lists and tuples -/
def rShow (X : Cx) : List V → Hp → VK → Prop := fun xs H Q => X.A.guards = some [] ∧ ∃ a d, xs = [.ref a] ∧ Dp X.K H (.ref a) d ∧ d.showable = true ∧ d.hasDict = false ∧ d.depth ≤ 60 ∧ d.shown.length ≤ sizeLine ∧ Q (.str d.shown) H
theorem call_show (hu : X.A.units + 64 < cLine) : CallR X (.builtin "repr") (rShow X) := by
  intro pins s σ H xs us Q I r h
  obtain ⟨hg, a, d, rfl, hd, hs, hn, hp, hz, q⟩ := h
  cases r with
  | cons r rr =>
    cases rr
    cases r
    obtain ⟨as, rd⟩ := Dp.reads I d _ _ hd rfl
    exact repr_of_reads' rd hs (fun z => by rw [hn] at z; cases z) hg (by omega) (fun _ _ e => e) (fun h' u tk hk => ⟨.str d.shown, H, I.kept hk, ⟨u, rfl⟩, q⟩) hz
end
end J

/-! ### data that may be shown -/
namespace J
open PySem L2
structure Shw (D B : Nat) (d : PyData) : Prop where
  sh : d.showable = true
  nd : d.hasDict = false
  dp : d.depth ≤ D
  ln : d.shown.length ≤ B
theorem Shw.mono {D B D' B' : Nat} {d : PyData} (h : Shw D B d) (h1 : D ≤ D') (h2 : B ≤ B') : Shw D' B' d := ⟨h.sh, h.nd, Nat.le_trans h.dp h1, Nat.le_trans h.ln h2⟩
theorem shw_all {D B : Nat} : ∀ {ds : List PyData}, (∀ d ∈ ds, Shw D B d) → PyData.showableAll ds = true ∧ PyData.hasDictAll ds = false ∧ PyData.depthAll ds ≤ D ∧ ((PyData.shownAll ds).map (·.length)).sum ≤ B * ds.length ∧ (PyData.shownAll ds).length = ds.length
  | [], _ => ⟨rfl, rfl, Nat.zero_le _, Nat.zero_le _, rfl⟩
  | d :: ds, h => by
    obtain ⟨a, b, c, e, f⟩ := shw_all fun x hx => h x (List.mem_cons_of_mem _ hx)
    obtain ⟨h1, h2, h3, h4⟩ := h d (List.mem_cons_self ..)
    refine ⟨by show (d.showable && PyData.showableAll ds) = true; rw [h1, a]; rfl, by show (d.hasDict || PyData.hasDictAll ds) = false; rw [h2, b]; rfl, by show max d.depth (PyData.depthAll ds) ≤ D; omega, ?_, congrArg (· + 1) f⟩
    show d.shown.length + ((PyData.shownAll ds).map (·.length)).sum ≤ B * (ds.length + 1)
    rw [Nat.mul_add, Nat.mul_one]; omega
theorem shw_list {D B : Nat} {ds : List PyData} (h : ∀ d ∈ ds, Shw D B d) : Shw (D + 1) ((B + 2) * ds.length + 3) (.list ds) := by
  obtain ⟨a, b, c, e, f⟩ := shw_all h
  refine ⟨a, b, Nat.succ_le_succ c, ?_⟩
  have := listText_len_le (PyData.shownAll ds)
  rw [f] at this
  refine Nat.le_trans this ?_
  rw [Nat.add_mul]; omega
theorem shw_tuple {D B : Nat} {ds : List PyData} (h : ∀ d ∈ ds, Shw D B d) : Shw (D + 1) ((B + 2) * ds.length + 3) (.tuple ds) := by
  obtain ⟨a, b, c, e, f⟩ := shw_all h
  refine ⟨a, b, Nat.succ_le_succ c, ?_⟩
  have := tupleText_len_le (PyData.shownAll ds)
  rw [f] at this
  refine Nat.le_trans this ?_
  rw [Nat.add_mul]; omega
theorem log_of_lt {n k : Nat} (h : n < 2 ^ k) (hk : 0 < k) : n.log2 < k := by
  by_cases z : n = 0
  · subst z; exact hk
  · exact (Nat.log2_lt z).mpr h
theorem shw_int {i : Int} (h : i.natAbs < 10 ^ 12) : Shw 0 13 (.int i) := by
  refine ⟨?_, rfl, Nat.le_refl _, PyData.shown_int_le h⟩
  show decide (i.natAbs.log2 < 1920) = true
  refine decide_eq_true (Nat.lt_trans (log_of_lt (k := 40) (Nat.lt_trans h (by decide)) (by decide)) (by decide))
theorem shw_str {x : Str} (h : ∀ c ∈ x.cps.toList, c < 16 ^ 8) : Shw 0 (10 * x.length + 2) (.str x) := ⟨rfl, rfl, Nat.le_refl _, StrLaws.reprText_len x h⟩
theorem dp_ints {K : PySem.W.Frag} {H : Hp} : ∀ q : List Int, DpAll K H (q.map V.int) (q.map PyData.int)
  | [] => .nil
  | _ :: q => .cons (.int _) (dp_ints q)
theorem dp_all {K : PySem.W.Frag} {H : Hp} : ∀ {vs : List V} {ds : List PyData}, vs.length = ds.length → (∀ (k : Nat) v d, vs[k]? = some v → ds[k]? = some d → Dp K H v d) → DpAll K H vs ds
  | [], [], _, _ => .nil
  | [], _ :: _, h, _ => nomatch h
  | _ :: _, [], h, _ => nomatch h
  | v :: vs, d :: ds, h, f => .cons (f 0 v d rfl rfl) (dp_all (Nat.succ.inj h) fun k v d e1 e2 => f (k + 1) v d e1 e2)
end J

/-! ### repr of a table of terms -/
namespace J
open PySem PySem.Spec PyProof.Rows L2
mutual
def tmD : Tm → PyData
  | .var n => .int n
  | .app f ts => .tuple (.str f :: tmDs ts)
def tmDs : List Tm → List PyData
  | [] => []
  | t :: ts => tmD t :: tmDs ts
end
/-- the table at its entries, in their order -/
def TbIn (H : Hp) : List (Key × V) → List (Int × Tm) → Prop
  | [], [] => True
  | kv :: r, x :: l => kv.1 = .inl x.1 ∧ TmIn H x.2 kv.2 ∧ TbIn H r l
  | _, _ => False
def tbD (l : List (Int × Tm)) : PyData := .dict (l.map fun x => (.int x.1, tmD x.2))
section
variable {X : Cx} {pins : List (Addr × Obj)} {σ : L2.St} {H : Hp} {s : Shared}
mutual
theorem tm_reads (I : Inv X pins σ H s) : ∀ (t : Tm) (v : V) (u : Value), TmIn H t v → RelV v u → Reads s.heap u (tmD t) []
  | .var n, v, u, h, r => by
    cases (show v = .int n from h)
    obtain ⟨t, rfl⟩ := r
    exact Reads.int n t
  | .app f ts, v, u, h, r => by
    obtain ⟨a, vs, rfl, ha, hts⟩ := h
    cases (show u = .ref a from r)
    obtain ⟨its, rv, ⟨o, e, hc, n, hd⟩, _⟩ := I.tuple (SqT.of ha)
    refine Reads.tuple e hc hd ?_
    cases rv with
    | cons r1 rr =>
      obtain ⟨tk, rfl⟩ := r1
      exact ReadsAll.cons (as := []) (Reads.str f tk) (tms_reads I ts vs _ hts rr)
theorem tms_reads (I : Inv X pins σ H s) : ∀ (ts : List Tm) (vs : List V) (us : List Value), TmsIn H ts vs → Vals vs us → ReadsAll s.heap us (tmDs ts) []
  | [], vs, us, h, r => by
    cases (show vs = [] from h)
    cases r
    exact ReadsAll.nil
  | t :: ts, vs, us, h, r => by
    obtain ⟨v, w, rfl, h1, h2⟩ := h
    cases r with
    | cons r1 rr => exact ReadsAll.cons (as := []) (tm_reads I t v _ h1 r1) (tms_reads I ts w _ h2 rr)
end
end
mutual
theorem tmD_shw {fs : List Str} {B : Int} (hn : Names fs) (hB : B ≤ 1000) : ∀ t : Tm, t.wf fs B → (tmD t).showable = true ∧ (tmD t).hasDict = false ∧ (tmD t).depth ≤ t.dep ∧ (tmD t).shown.length + 10 ≤ 90 * t.sz
  | .var n, w => by
    have w : 0 ≤ n ∧ n < B := w
    have h := shw_int (i := n) (Nat.lt_trans (show n.natAbs < 10000 by omega) (by decide))
    have := h.ln
    exact ⟨h.sh, h.nd, Nat.zero_le _, by show (PyData.int n).shown.length + 10 ≤ 90 * 1; omega⟩
  | .app f ts, w => by
    obtain ⟨⟨k, hk, _⟩, w⟩ := (show (∃ k, fs[k]? = some f ∧ ts.length = ar k) ∧ Tm.wfs fs B ts from w)
    have hf := List.mem_of_getElem? hk
    have h1 := hn.hi f hf
    have h2 := shw_str (x := f) fun c hc => Nat.lt_of_le_of_lt (hn.low f hf c hc).2 (by decide)
    obtain ⟨a, b, c, d, e⟩ := tmDs_shw hn hB ts w
    refine ⟨by show ((PyData.str f).showable && PyData.showableAll (tmDs ts)) = true; rw [h2.sh, a]; rfl, by show ((PyData.str f).hasDict || PyData.hasDictAll (tmDs ts)) = false; rw [h2.nd, b]; rfl, ?_, ?_⟩
    · show max (PyData.str f).depth (PyData.depthAll (tmDs ts)) + 1 ≤ 1 + Tm.deps ts
      have : (PyData.str f).depth = 0 := rfl
      omega
    · have h3 := tupleText_len_le (PyData.shownAll (.str f :: tmDs ts))
      have h4 := h2.ln
      have e1 : ((PyData.shownAll (.str f :: tmDs ts)).map (·.length)).sum = (PyData.str f).shown.length + ((PyData.shownAll (tmDs ts)).map (·.length)).sum := rfl
      have e2 : (PyData.shownAll (.str f :: tmDs ts)).length = (PyData.shownAll (tmDs ts)).length + 1 := rfl
      show (tupleText (PyData.shownAll (.str f :: tmDs ts))).length + 10 ≤ 90 * (1 + Tm.szs ts)
      omega
theorem tmDs_shw {fs : List Str} {B : Int} (hn : Names fs) (hB : B ≤ 1000) : ∀ ts : List Tm, Tm.wfs fs B ts → PyData.showableAll (tmDs ts) = true ∧ PyData.hasDictAll (tmDs ts) = false ∧ PyData.depthAll (tmDs ts) ≤ Tm.deps ts ∧ ((PyData.shownAll (tmDs ts)).map (·.length)).sum + 10 * ts.length ≤ 90 * Tm.szs ts ∧ (PyData.shownAll (tmDs ts)).length = ts.length
  | [], _ => ⟨rfl, rfl, Nat.zero_le _, Nat.zero_le _, rfl⟩
  | t :: ts, w => by
    obtain ⟨a, b, c, d⟩ := tmD_shw hn hB t w.1
    obtain ⟨a', b', c', d', e'⟩ := tmDs_shw hn hB ts w.2
    refine ⟨by show ((tmD t).showable && PyData.showableAll (tmDs ts)) = true; rw [a, a']; rfl, by show ((tmD t).hasDict || PyData.hasDictAll (tmDs ts)) = false; rw [b, b']; rfl, ?_, ?_, congrArg (· + 1) e'⟩
    · show max (tmD t).depth (PyData.depthAll (tmDs ts)) ≤ max t.dep (Tm.deps ts); omega
    · show (tmD t).shown.length + ((PyData.shownAll (tmDs ts)).map (·.length)).sum + 10 * (ts.length + 1) ≤ 90 * (t.sz + Tm.szs ts)
      omega
end
theorem tbD_shw {fs : List Str} {B : Int} (hn : Names fs) (hB : B ≤ 1000) : ∀ l : List (Int × Tm), (∀ x ∈ l, x.1.natAbs < 10000 ∧ x.2.wf fs B ∧ x.2.sz ≤ 1000 ∧ x.2.dep ≤ 50) →
    PyData.showableKv (l.map fun x => (PyData.int x.1, tmD x.2)) = true ∧ PyData.depthKv (l.map fun x => (PyData.int x.1, tmD x.2)) ≤ 50 ∧ ((PyData.shownKv (l.map fun x => (PyData.int x.1, tmD x.2))).map (·.length)).sum ≤ 90100 * l.length ∧ (PyData.shownKv (l.map fun x => (PyData.int x.1, tmD x.2))).length = l.length
  | [], _ => ⟨rfl, Nat.zero_le _, Nat.zero_le _, rfl⟩
  | x :: l, h => by
    obtain ⟨a, b, c, d⟩ := tbD_shw hn hB l fun y hy => h y (List.mem_cons_of_mem _ hy)
    obtain ⟨h1, h2, h3, h4⟩ := h x (List.mem_cons_self ..)
    have hi := shw_int (i := x.1) (Nat.lt_trans h1 (by decide))
    obtain ⟨s1, _, s3, s4⟩ := tmD_shw hn hB x.2 h2
    refine ⟨by show ((PyData.int x.1).showable && (tmD x.2).showable && PyData.showableKv _) = true; rw [hi.sh, s1, a]; rfl, ?_, ?_, congrArg (· + 1) d⟩
    · show max (max (PyData.int x.1).depth (tmD x.2).depth) (PyData.depthKv _) ≤ 50
      have : (PyData.int x.1).depth = 0 := rfl
      omega
    · show ((PyData.int x.1).shown ++ ": " ++ (tmD x.2).shown).length + ((PyData.shownKv (l.map fun x => (PyData.int x.1, tmD x.2))).map (·.length)).sum ≤ 90100 * (l.length + 1)
      rw [len_app, len_app]
      have e : (": " : Str).length = 2 := by decide +kernel
      have := hi.ln
      omega
theorem TbIn.length {H : Hp} : ∀ {kvs : List (Key × V)} {l : List (Int × Tm)}, TbIn H kvs l → kvs.length = l.length
  | [], [], _ => rfl
  | [], _ :: _, h => h.elim
  | _ :: _, [], h => h.elim
  | _ :: _, _ :: _, h => congrArg (· + 1) (TbIn.length h.2.2)
theorem TbIn.tu {H H' : Hp} (t : Tu H H') : ∀ {kvs : List (Key × V)} {l : List (Int × Tm)}, TbIn H kvs l → TbIn H' kvs l
  | [], [], _ => trivial
  | [], _ :: _, h => h.elim
  | _ :: _, [], h => h.elim
  | _ :: _, _ :: _, h => ⟨h.1, h.2.1.tu t, TbIn.tu t h.2.2⟩
theorem TbIn.snoc {H : Hp} {n : Int} {t : Tm} {v : V} (ht : TmIn H t v) : ∀ {kvs : List (Key × V)} {l : List (Int × Tm)}, TbIn H kvs l → TbIn H (kvs ++ [(.inl n, v)]) (l ++ [(n, t)])
  | [], [], _ => ⟨rfl, ht, trivial⟩
  | [], _ :: _, h => h.elim
  | _ :: _, [], h => h.elim
  | _ :: _, _ :: _, h => ⟨h.1, h.2.1, TbIn.snoc ht h.2.2⟩
def look : List (Int × Tm) → Int → Option Tm
  | [], _ => none
  | x :: l, n => if x.1 = n then some x.2 else look l n
theorem TbIn.val {H : Hp} (n : Int) : ∀ {kvs : List (Key × V)} {l : List (Int × Tm)}, TbIn H kvs l → match look l n with
    | none => valV kvs (.inl n) = none
    | some t => ∃ v, valV kvs (.inl n) = some v ∧ TmIn H t v
  | [], [], _ => rfl
  | [], _ :: _, h => h.elim
  | _ :: _, [], h => h.elim
  | kv :: r, x :: l, h => by
    by_cases e : x.1 = n
    · rw [show look (x :: l) n = some x.2 from if_pos e]
      exact ⟨kv.2, valV_pos (by rw [h.1, e]), h.2.1⟩
    · rw [show look (x :: l) n = look l n from if_neg e, valV_neg (by rw [h.1]; exact fun z => e (Sum.inl.inj z))]
      exact TbIn.val n h.2.2
theorem TbIn.sb {H : Hp} {d : Addr} {kvs : List (Key × V)} {l : List (Int × Tm)} (h : H d = some (.dK kvs)) (t : TbIn H kvs l) : SbIn H d (look l) := ⟨kvs, h, fun n => t.val n⟩
theorem look_mem {n : Int} {t : Tm} : ∀ {l : List (Int × Tm)}, look l n = some t → (n, t) ∈ l
  | [], h => nomatch h
  | x :: l, h => by
    by_cases e : x.1 = n
    · rw [show look (x :: l) n = some x.2 from if_pos e] at h
      cases h
      rw [← e]; exact List.mem_cons_self ..
    · rw [show look (x :: l) n = look l n from if_neg e] at h
      exact List.mem_cons_of_mem _ (look_mem h)
theorem look_none {n : Int} : ∀ {l : List (Int × Tm)}, (∀ x ∈ l, x.1 ≠ n) → look l n = none
  | [], _ => rfl
  | x :: l, h => by
    rw [show look (x :: l) n = look l n from if_neg (h x (List.mem_cons_self ..))]
    exact look_none fun y hy => h y (List.mem_cons_of_mem _ hy)
section
variable {X : Cx} {pins : List (Addr × Obj)} {σ : L2.St} {H : Hp} {s : Shared}
theorem tb_keys (h : Heap) : ∀ {kvs : List (Key × V)} {l : List (Int × Tm)} {vs : List (Key × Value)} {es : List DictEntry} {P : Program} {w : World}, TbIn H kvs l → KV kvs vs → Pairs (mixKind P w) es vs → ReadsAll h (es.map (·.key)) ((l.map fun x => (PyData.int x.1, tmD x.2)).map (·.1)) []
  | [], [], _, _, _, _, _, k, p => by
    cases k; cases p
    exact ReadsAll.nil
  | [], _ :: _, _, _, _, _, h, _, _ => h.elim
  | _ :: _, [], _, _, _, _, h, _, _ => h.elim
  | kv :: r, x :: l, _, _, _, _, ⟨e, _, h2⟩, k, p => by
    cases k with
    | cons k1 kr =>
      cases p with
      | cons p1 p2 pr =>
        have p1 : keyIs _ _ = true := p1
        rw [← k1.1, e] at p1
        rcases keyIs_shape p1 with ⟨i, t, e1, e2⟩ | ⟨y, t, e1, _⟩
        · cases e1
          refine ReadsAll.cons (as := []) ?_ (tb_keys h h2 kr pr)
          show Reads h (DictEntry.key _) _ _
          rw [e2]
          exact Reads.int _ t
        · cases e1
theorem tb_vals (I : Inv X pins σ H s) : ∀ {kvs : List (Key × V)} {l : List (Int × Tm)} {vs : List (Key × Value)} {es : List DictEntry} {P : Program} {w : World}, TbIn H kvs l → KV kvs vs → Pairs (mixKind P w) es vs → ReadsAll s.heap (es.map (·.val)) ((l.map fun x => (PyData.int x.1, tmD x.2)).map (·.2)) []
  | [], [], _, _, _, _, _, k, p => by
    cases k; cases p
    exact ReadsAll.nil
  | [], _ :: _, _, _, _, _, h, _, _ => h.elim
  | _ :: _, [], _, _, _, _, h, _, _ => h.elim
  | kv :: r, x :: l, _, _, _, _, ⟨_, h1, h2⟩, k, p => by
    cases k with
    | cons k1 kr =>
      cases p with
      | cons p1 p2 pr =>
        refine ReadsAll.cons (as := []) ?_ (tb_vals I h2 kr pr)
        show Reads s.heap (DictEntry.val _) _ _
        rw [p2]
        exact tm_reads I _ _ _ h1 k1.2
/-- repr of a table -/
def rShowT (X : Cx) : List V → Hp → VK → Prop := fun xs H Q => X.A.guards = some [] ∧ ∃ a kvs l fs, ∃ B : Int, xs = [.ref a] ∧ H a = some (.dK kvs) ∧ TbIn H kvs l ∧ Names fs ∧ B ≤ 1000 ∧ (∀ x ∈ l, x.1.natAbs < 10000 ∧ x.2.wf fs B ∧ x.2.sz ≤ 1000 ∧ x.2.dep ≤ 50) ∧ l.length ≤ 30 ∧ Q (.str (tbD l).shown) H
theorem call_showT (hu : X.A.units + 64 < cLine) : CallR X (.builtin "repr") (rShowT X) := by
  intro pins s σ H xs us Q I r h
  obtain ⟨hg, a, kvs, l, fs, B, rfl, ha, ht, hn, hB, hl, hz, q⟩ := h
  obtain ⟨a1, a2, a3, a4⟩ := tbD_shw hn hB l hl
  cases r with
  | cons r rr =>
    cases rr
    cases r
    obtain ⟨_, hS, vs, k, o, es, ep, e, ⟨hc, _, _⟩, hd, _, pr, _⟩ := dk_of I.hok ha
    have rd : Reads s.heap (.ref a) (tbD l) (a :: [] ++ []) := Reads.dict e hc hd (tb_keys s.heap ht k pr) (tb_vals I ht k pr)
    have hln : (tbD l).shown.length ≤ sizeLine := by
      refine Nat.le_trans (dictText_len_le _) (Nat.le_trans (show _ ≤ 3000000 from ?_) (by decide))
      rw [a4]; omega
    have hdp : (tbD l).depth ≤ 51 := Nat.succ_le_succ a2
    refine repr_of_reads' rd a1 (fun _ z => ?_) hg (by omega) (fun _ _ e => e) (fun h' u tk hk => ⟨.str (tbD l).shown, H, I.kept hk, ⟨u, rfl⟩, q⟩) hln
    rcases List.mem_cons.mp z with z | z
    · rw [← z, beq_self_eq_true] at hS; cases hS
    · cases z
end
end J

/-! ### < and > of data; equality of terms; the order of terms -/
namespace J
open PySem PySem.Spec PyProof.Rows L2
section
variable {X : Cx}
def rCmpD (K : PySem.W.Frag) (g : PyData → PyData → Bool) : R2 := fun x y H Q => ∃ d e, Dp K H x d ∧ Dp K H y e ∧ PySem.W.alike d e = true ∧ d ≠ .none ∧ d.depth ≤ 60 ∧ Q (.bl (g d e)) H
theorem op_ltD (hu : X.A.units + 64 < cLine) : OpR X (compareOp .Lt) (rCmpD X.K fun d e => PySem.W.dataLt d e) := by
  intro pins s σ H x y v u Q I rx ry h
  obtain ⟨d, e, hd, he, al, nn, dp, q⟩ := h
  obtain ⟨as, r1⟩ := Dp.reads I d x v hd rx
  obtain ⟨bs, r2⟩ := Dp.reads I e y u he ry
  exact PySem.W.lt_data r1 r2 al nn (by have := Nat.min_le_left d.depth e.depth; omega) ⟨.bl _, H, I, rfl, q⟩
theorem op_gtD (hu : X.A.units + 64 < cLine) : OpR X (compareOp .Gt) (rCmpD X.K fun d e => PySem.W.dataLt e d) := by
  intro pins s σ H x y v u Q I rx ry h
  obtain ⟨d, e, hd, he, al, nn, dp, q⟩ := h
  obtain ⟨as, r1⟩ := Dp.reads I d x v hd rx
  obtain ⟨bs, r2⟩ := Dp.reads I e y u he ry
  exact PySem.W.gt_data r1 r2 al nn (by have := Nat.min_le_left d.depth e.depth; omega) ⟨.bl _, H, I, rfl, q⟩
end
/-! terms as data -/
mutual
theorem tmD_eqv : ∀ a b : Tm, PyData.eqv (tmD a) (tmD b) = true ↔ a = b
  | .var i, .var j => by
    show (i == j) = true ↔ _
    rw [beq_iff_eq]
    exact ⟨fun e => by rw [e], fun e => by injection e⟩
  | .var _, .app _ _ => ⟨fun h => (nomatch (show false = true from h)), fun h => nomatch h⟩
  | .app _ _, .var _ => ⟨fun h => (nomatch (show false = true from h)), fun h => nomatch h⟩
  | .app f ts, .app g us => by
    show ((f == g) && PyData.eqvAll (tmDs ts) (tmDs us)) = true ↔ _
    rw [Bool.and_eq_true, beq_iff_eq, tmDs_eqv ts us]
    exact ⟨fun ⟨a, b⟩ => by rw [a, b], fun e => by injection e with a b; exact ⟨a, b⟩⟩
theorem tmDs_eqv : ∀ a b : List Tm, PyData.eqvAll (tmDs a) (tmDs b) = true ↔ a = b
  | [], [] => ⟨fun _ => rfl, fun _ => rfl⟩
  | [], _ :: _ => ⟨fun h => (nomatch (show false = true from h)), fun h => nomatch h⟩
  | _ :: _, [] => ⟨fun h => (nomatch (show false = true from h)), fun h => nomatch h⟩
  | t :: ts, u :: us => by
    show (PyData.eqv (tmD t) (tmD u) && PyData.eqvAll (tmDs ts) (tmDs us)) = true ↔ _
    rw [Bool.and_eq_true, tmD_eqv t u, tmDs_eqv ts us]
    exact ⟨fun ⟨a, b⟩ => by rw [a, b], fun e => by injection e with a b; exact ⟨a, b⟩⟩
end
mutual
theorem tmD_dp {K : PySem.W.Frag} {H : Hp} : ∀ (t : Tm) (v : V), TmIn H t v → Dp K H v (tmD t)
  | .var n, v, h => by cases (show v = .int n from h); exact .int n
  | .app f ts, v, h => by
    obtain ⟨a, vs, rfl, ha, hts⟩ := h
    exact .tup (SqT.of ha) (.cons (.str f) (tmDs_dp ts vs hts))
theorem tmDs_dp {K : PySem.W.Frag} {H : Hp} : ∀ (ts : List Tm) (vs : List V), TmsIn H ts vs → DpAll K H vs (tmDs ts)
  | [], vs, h => by cases (show vs = [] from h); exact .nil
  | t :: ts, vs, h => by
    obtain ⟨v, w, rfl, h1, h2⟩ := h
    exact .cons (tmD_dp t v h1) (tmDs_dp ts w h2)
end
theorem low_ok {x : Str} (h : Low x) : PyData.strOk x = true := by
  unfold PyData.strOk
  rw [← Array.all_toList, List.all_eq_true]
  intro c hc
  have := h c hc
  exact decide_eq_true (by omega)
mutual
theorem tmD_lay {fs : List Str} (hn : Names fs) {B : Int} : ∀ t : Tm, t.wf fs B → (tmD t).canLay0 = true ∧ (tmD t).depth ≤ t.dep
  | .var n, _ => ⟨rfl, Nat.zero_le _⟩
  | .app f ts, w => by
    obtain ⟨⟨k, hk, _⟩, w⟩ := (show (∃ k, fs[k]? = some f ∧ ts.length = ar k) ∧ Tm.wfs fs B ts from w)
    have := tmDs_lay hn ts w
    refine ⟨?_, ?_⟩
    · show (PyData.strOk f && PyData.canLayAll0 (tmDs ts)) = true
      rw [this.1, low_ok (hn.low f (List.mem_of_getElem? hk))]; rfl
    · show max (PyData.str f).depth (PyData.depthAll (tmDs ts)) + 1 ≤ 1 + Tm.deps ts
      have : (PyData.str f).depth = 0 := rfl
      omega
theorem tmDs_lay {fs : List Str} (hn : Names fs) {B : Int} : ∀ ts : List Tm, Tm.wfs fs B ts → PyData.canLayAll0 (tmDs ts) = true ∧ PyData.depthAll (tmDs ts) ≤ Tm.deps ts
  | [], _ => ⟨rfl, Nat.le_refl _⟩
  | t :: ts, w => by
    have a := tmD_lay hn t w.1
    have b := tmDs_lay hn ts w.2
    refine ⟨?_, ?_⟩
    · show ((tmD t).canLay0 && PyData.canLayAll0 (tmDs ts)) = true
      rw [a.1, b.1]; rfl
    · show max (tmD t).depth (PyData.depthAll (tmDs ts)) ≤ max t.dep (Tm.deps ts)
      omega
end
theorem tmD_shaped {fs : List Str} (hn : Names fs) {B : Int} {t : Tm} (w : t.wf fs B) (h : t.dep ≤ 60) : SeqAt.shaped (tmD t) = true := by
  have := tmD_lay hn t w
  unfold SeqAt.shaped
  rw [this.1, Bool.true_and]
  exact decide_eq_true (by omega)
/-! symbols in rows -/
def rowD : V → PyData
  | .int n => .tuple [.int 0, .int n, .str ""]
  | .str f => .tuple [.int 1, .int 0, .str f]
  | _ => .tuple [.int 1, .int 0, .str ""]
theorem rowD_alike (x y : V) : PySem.W.alike (rowD x) (rowD y) = true := by cases x <;> cases y <;> rfl
theorem rows_alike : ∀ xs ys : List V, PySem.W.alikeAll (xs.map rowD) (ys.map rowD) = true
  | [], _ => rfl
  | _ :: _, [] => rfl
  | x :: xs, y :: ys => by
    show (PySem.W.alike (rowD x) (rowD y) && PySem.W.alikeAll (xs.map rowD) (ys.map rowD)) = true
    rw [rowD_alike, rows_alike xs ys]; rfl
def keyL (t : Tm) : List PyData := [.int ((syms t).length : Int), .list ((syms t).map rowD)]
theorem keyL_alike (t r : Tm) : PySem.W.alikeAll (keyL t) (keyL r) = true := by
  show (true && (PySem.W.alikeAll ((syms t).map rowD) ((syms r).map rowD) && true)) = true
  rw [rows_alike]; rfl
theorem row_inj : ∀ xs ys : List V, (∀ y ∈ xs, (∃ n, y = .int n) ∨ ∃ f, y = .str f) → (∀ y ∈ ys, (∃ n, y = .int n) ∨ ∃ f, y = .str f) → PySem.W.keyToksAll (xs.map rowD) = PySem.W.keyToksAll (ys.map rowD) → xs = ys
  | [], [], _, _, _ => rfl
  | [], _ :: _, _, _, h => by cases (show Sum.inl (0 : Int) = Sum.inl 1 from (List.cons.inj h).1)
  | _ :: _, [], _, _, h => by cases (show Sum.inl (1 : Int) = Sum.inl 0 from (List.cons.inj h).1)
  | x :: xs, y :: ys, hx, hy, h => by
    have h : Sum.inl 1 :: (PySem.W.keyToks (rowD x) ++ PySem.W.keyToksAll (xs.map rowD)) = Sum.inl 1 :: (PySem.W.keyToks (rowD y) ++ PySem.W.keyToksAll (ys.map rowD)) := h
    have h := (List.cons.inj h).2
    have ih := row_inj xs ys (fun z hz => hx z (List.mem_cons_of_mem _ hz)) (fun z hz => hy z (List.mem_cons_of_mem _ hz))
    rcases hx x (List.mem_cons_self ..) with ⟨n, rfl⟩ | ⟨f, rfl⟩
    · rcases hy y (List.mem_cons_self ..) with ⟨m, rfl⟩ | ⟨g, rfl⟩
      · have h : ([.inl 1, .inl 0, .inl 1, .inl n, .inl 1, .inr [], .inl 0] : List (Int ⊕ List Nat)) ++ PySem.W.keyToksAll (xs.map rowD) = [.inl 1, .inl 0, .inl 1, .inl m, .inl 1, .inr [], .inl 0] ++ PySem.W.keyToksAll (ys.map rowD) := h
        simp only [List.cons_append, List.nil_append, List.cons.injEq, Sum.inl.injEq, true_and] at h
        rw [h.1, ih h.2]
      · have h : ([.inl 1, .inl 0, .inl 1, .inl n, .inl 1, .inr [], .inl 0] : List (Int ⊕ List Nat)) ++ PySem.W.keyToksAll (xs.map rowD) = [.inl 1, .inl 1, .inl 1, .inl 0, .inl 1, .inr g.cps.toList, .inl 0] ++ PySem.W.keyToksAll (ys.map rowD) := h
        simp at h
    · rcases hy y (List.mem_cons_self ..) with ⟨m, rfl⟩ | ⟨g, rfl⟩
      · have h : ([.inl 1, .inl 1, .inl 1, .inl 0, .inl 1, .inr f.cps.toList, .inl 0] : List (Int ⊕ List Nat)) ++ PySem.W.keyToksAll (xs.map rowD) = [.inl 1, .inl 0, .inl 1, .inl m, .inl 1, .inr [], .inl 0] ++ PySem.W.keyToksAll (ys.map rowD) := h
        simp at h
      · have h : ([.inl 1, .inl 1, .inl 1, .inl 0, .inl 1, .inr f.cps.toList, .inl 0] : List (Int ⊕ List Nat)) ++ PySem.W.keyToksAll (xs.map rowD) = [.inl 1, .inl 1, .inl 1, .inl 0, .inl 1, .inr g.cps.toList, .inl 0] ++ PySem.W.keyToksAll (ys.map rowD) := h
        simp only [List.cons_append, List.nil_append, List.cons.injEq, Sum.inr.injEq, true_and] at h
        rw [PySem.W.str_of_cps h.1, ih h.2]
theorem nd_get {l : List Str} (nd : l.Nodup) {i j : Nat} {x : Str} (hi : l[i]? = some x) (hj : l[j]? = some x) : i = j := by
  obtain ⟨h1, e1⟩ := List.getElem?_eq_some_iff.mp hi
  obtain ⟨h2, e2⟩ := List.getElem?_eq_some_iff.mp hj
  exact (List.getElem_inj nd).mp (e1.trans e2.symm)
mutual
/-- a term's symbols tell the term -/
theorem syms_inj {fs : List Str} (nd : fs.Nodup) {B C : Int} : ∀ (t r : Tm) (a b : List V), t.wf fs B → r.wf fs C → syms t ++ a = syms r ++ b → t = r ∧ a = b
  | .var n, .var m, a, b, _, _, h => by
    have h : V.int n :: a = V.int m :: b := h
    obtain ⟨h1, h2⟩ := List.cons.inj h
    injection h1 with h1
    exact ⟨by rw [h1], h2⟩
  | .var n, .app g us, a, b, _, _, h => by
    have h : V.int n :: a = V.str g :: (symss us ++ b) := h
    cases (List.cons.inj h).1
  | .app f ts, .var m, a, b, _, _, h => by
    have h : V.str f :: (symss ts ++ a) = V.int m :: b := h
    cases (List.cons.inj h).1
  | .app f ts, .app g us, a, b, w1, w2, h => by
    have h : V.str f :: (symss ts ++ a) = V.str g :: (symss us ++ b) := h
    obtain ⟨h1, h2⟩ := List.cons.inj h
    injection h1 with h1
    subst h1
    obtain ⟨⟨i, i1, i2⟩, w1⟩ := (show (∃ k, fs[k]? = some f ∧ ts.length = ar k) ∧ Tm.wfs fs B ts from w1)
    obtain ⟨⟨j, j1, j2⟩, w2⟩ := (show (∃ k, fs[k]? = some f ∧ us.length = ar k) ∧ Tm.wfs fs C us from w2)
    cases nd_get nd i1 j1
    obtain ⟨e1, e2⟩ := symss_inj nd ts us a b w1 w2 (i2.trans j2.symm) h2
    exact ⟨by rw [e1], e2⟩
theorem symss_inj {fs : List Str} (nd : fs.Nodup) {B C : Int} : ∀ (ts us : List Tm) (a b : List V), Tm.wfs fs B ts → Tm.wfs fs C us → ts.length = us.length → symss ts ++ a = symss us ++ b → ts = us ∧ a = b
  | [], [], a, b, _, _, _, h => ⟨rfl, h⟩
  | [], _ :: _, _, _, _, _, l, _ => nomatch l
  | _ :: _, [], _, _, _, _, l, _ => nomatch l
  | t :: ts, u :: us, a, b, w1, w2, l, h => by
    have h : syms t ++ symss ts ++ a = syms u ++ symss us ++ b := h
    rw [List.append_assoc, List.append_assoc] at h
    obtain ⟨e1, h⟩ := syms_inj nd t u _ _ w1.1 w2.1 h
    obtain ⟨e2, e3⟩ := symss_inj nd ts us a b w1.2 w2.2 (Nat.succ.inj l) h
    exact ⟨by rw [e1, e2], e3⟩
end
theorem key_inj {fs : List Str} (nd : fs.Nodup) {B C : Int} {t r : Tm} (w1 : t.wf fs B) (w2 : r.wf fs C) (h : PySem.W.keyToksAll (keyL t) = PySem.W.keyToksAll (keyL r)) : t = r := by
  have h : Sum.inl 1 :: ([Sum.inl ((syms t).length : Int)] ++ (Sum.inl 1 :: (PySem.W.keyToksAll ((syms t).map rowD) ++ [Sum.inl 0]))) = Sum.inl 1 :: ([Sum.inl ((syms r).length : Int)] ++ (Sum.inl 1 :: (PySem.W.keyToksAll ((syms r).map rowD) ++ [Sum.inl 0]))) := h
  simp only [List.cons_append, List.nil_append, List.cons.injEq, true_and] at h
  have h2 := row_inj _ _ (fun y hy => syms_kind t y hy) (fun y hy => syms_kind r y hy) (List.append_cancel_right h.2)
  exact (syms_inj nd t r [] [] w1 w2 (by rw [List.append_nil, List.append_nil]; exact h2)).1
/-- the order's three cases -/
def klt (t r : Tm) : Bool := lexLt itemOrd (PySem.W.keyToksAll (keyL t)) (PySem.W.keyToksAll (keyL r))
def kcmp (t r : Tm) : Int := if klt t r = true then -1 else if klt r t = true then 1 else 0
theorem rows_dep : ∀ l : List V, PyData.depthAll (l.map rowD) ≤ 1
  | [] => Nat.zero_le _
  | y :: l => by
    have ih := rows_dep l
    have hy : (rowD y).depth ≤ 1 := by cases y <;> exact Nat.le_refl _
    show max (rowD y).depth (PyData.depthAll (l.map rowD)) ≤ 1
    omega
theorem keyL_dep (t : Tm) : PyData.depthAll (keyL t) ≤ 2 := by
  have := rows_dep (syms t)
  show max 0 (max (PyData.depthAll ((syms t).map rowD) + 1) 0) ≤ 2
  omega
theorem klt_self (t : Tm) : klt t t = false := lex_irrefl _
theorem klt_tri {fs : List Str} (nd : fs.Nodup) {B C : Int} {t r : Tm} (w1 : t.wf fs B) (w2 : r.wf fs C) (h1 : klt t r = false) (h2 : klt r t = false) : t = r := key_inj nd w1 w2 (lex_total _ _ h1 h2)
theorem klt_asym {t r : Tm} (h : klt t r = true) : klt r t = false := by
  cases e : klt r t with
  | false => rfl
  | true =>
    have := lex_trans _ _ _ h e
    have h2 := klt_self t
    rw [show klt t t = true from this] at h2
    cases h2
/-! lists of tuples -/
def LtIn (H : Hp) (p : Addr) (rows : List (List V)) : Prop := ∃ as : List Addr, H p = some (.lst (as.map V.ref)) ∧ as.length = rows.length ∧ ∀ (k : Nat) (a : Addr) (q : List V), as[k]? = some a → rows[k]? = some q → H a = some (.tup q)
theorem LtIn.same {H H' : Hp} {p : Addr} {rows : List (List V)} (h : LtIn H p rows) (s : Same H H') : LtIn H' p rows := by
  obtain ⟨as, h1, h2, h3⟩ := h
  exact ⟨as, s _ _ h1, h2, fun k a q ea eq => s _ _ (h3 k a q ea eq)⟩
theorem LtIn.push {H H' : Hp} {p a : Addr} {rows : List (List V)} {q : List V} {as : List Addr} (h2 : as.length = rows.length) (h3 : ∀ (k : Nat) (a : Addr) (q : List V), as[k]? = some a → rows[k]? = some q → H a = some (.tup q))
    (t : Tu H H') (e : H' p = some (.lst (as.map V.ref ++ [.ref a]))) (ha : H' a = some (.tup q)) : LtIn H' p (rows ++ [q]) := by
  refine ⟨as ++ [a], by rw [e, List.map_append]; rfl, by rw [List.length_append, List.length_append, h2]; rfl, fun k b r eb er => ?_⟩
  by_cases hk : k < as.length
  · rw [List.getElem?_append_left hk] at eb
    rw [List.getElem?_append_left (by omega)] at er
    exact t _ _ (h3 k b r eb er)
  · have h4 := (List.getElem?_eq_some_iff.mp eb).1
    rw [List.length_append, List.length_singleton] at h4
    have ek : k = as.length := by omega
    subst ek
    rw [List.getElem?_append_right (Nat.le_refl _), Nat.sub_self] at eb
    rw [List.getElem?_append_right (by omega), h2, Nat.sub_self] at er
    cases eb; cases er
    exact ha
/-- one list behind another -/
theorem LtIn.app {H H' : Hp} {p b r : Addr} {xs ys : List (List V)} {as bs : List Addr} (h2 : as.length = xs.length) (h3 : ∀ (k : Nat) (a : Addr) (q : List V), as[k]? = some a → xs[k]? = some q → H a = some (.tup q))
    (g2 : bs.length = ys.length) (g3 : ∀ (k : Nat) (a : Addr) (q : List V), bs[k]? = some a → ys[k]? = some q → H a = some (.tup q)) (t : Tu H H') (e : H' r = some (.lst (as.map V.ref ++ bs.map V.ref))) : LtIn H' r (xs ++ ys) := by
  refine ⟨as ++ bs, by rw [e, List.map_append], by rw [List.length_append, List.length_append, h2, g2], fun k c q ec eq => ?_⟩
  by_cases hk : k < as.length
  · rw [List.getElem?_append_left hk] at ec
    rw [List.getElem?_append_left (by omega)] at eq
    exact t _ _ (h3 k c q ec eq)
  · rw [List.getElem?_append_right (by omega)] at ec
    rw [List.getElem?_append_right (by omega), ← h2] at eq
    exact t _ _ (g3 _ c q ec eq)
def rowV : V → List V
  | .int n => [.int 0, .int n, .str ""]
  | .str f => [.int 1, .int 0, .str f]
  | _ => [.int 1, .int 0, .str ""]
theorem row_dp {K : PySem.W.Frag} {H : Hp} {a : Addr} {y : V} (h : H a = some (.tup (rowV y))) : Dp K H (.ref a) (rowD y) := by
  cases y with
  | int n => exact .tup (SqT.of h) (.cons (.int 0) (.cons (.int n) (.cons (.str _) .nil)))
  | str f => exact .tup (SqT.of h) (.cons (.int 1) (.cons (.int 0) (.cons (.str f) .nil)))
  | _ => exact .tup (SqT.of h) (.cons (.int 1) (.cons (.int 0) (.cons (.str _) .nil)))
theorem LtIn.dp {K : PySem.W.Frag} {H : Hp} {p : Addr} {l : List V} (h : LtIn H p (l.map rowV)) : Dp K H (.ref p) (.list (l.map rowD)) := by
  obtain ⟨as, h1, h2, h3⟩ := h
  rw [List.length_map] at h2
  refine .lst (SqL.of h1) (dp_all (by rw [List.length_map, List.length_map, h2]) fun k v d e1 e2 => ?_)
  rw [List.getElem?_map] at e1 e2
  cases ea : as[k]? with
  | none => rw [ea] at e1; cases e1
  | some a =>
    cases ey : l[k]? with
    | none => rw [ey] at e2; cases e2
    | some y =>
      rw [ea] at e1; rw [ey] at e2
      cases e1; cases e2
      exact row_dp (h3 k a _ ea (by rw [List.getElem?_map, ey]; rfl))
theorem rows_lay {fs : List Str} (hn : Names fs) : ∀ l : List V, (∀ y ∈ l, (∃ n, y = .int n) ∨ ∃ f, f ∈ fs ∧ y = .str f) → PyData.canLayAll0 (l.map rowD) = true ∧ PyData.depthAll (l.map rowD) ≤ 1
  | [], _ => ⟨rfl, Nat.zero_le _⟩
  | y :: l, h => by
    have ih := rows_lay hn l fun z hz => h z (List.mem_cons_of_mem _ hz)
    have hy : (rowD y).canLay0 = true ∧ (rowD y).depth ≤ 1 := by
      rcases h y (List.mem_cons_self ..) with ⟨n, rfl⟩ | ⟨f, hf, rfl⟩
      · exact ⟨by show (true && (true && (PyData.strOk "" && true))) = true; decide +kernel, Nat.le_refl _⟩
      · refine ⟨?_, Nat.le_refl _⟩
        show (true && (true && (PyData.strOk f && true))) = true
        rw [low_ok (hn.low f hf)]; rfl
    refine ⟨?_, ?_⟩
    · show ((rowD y).canLay0 && PyData.canLayAll0 (l.map rowD)) = true
      rw [hy.1, ih.1]; rfl
    · show max (rowD y).depth (PyData.depthAll (l.map rowD)) ≤ 1
      omega
end J

/-! ### steps: a pattern with the variable 9 at one place -/
namespace J
open PySem L2
mutual
theorem sub_id (m : Int → Option Tm) : ∀ t : Tm, (∀ n ∈ occ t, (m n).getD (.var n) = .var n) → sub m t = t
  | .var n, h => h n (List.mem_singleton.mpr rfl)
  | .app f ts, h => congrArg (Tm.app f) (subs_id m ts h)
theorem subs_id (m : Int → Option Tm) : ∀ ts : List Tm, (∀ n ∈ occs ts, (m n).getD (.var n) = .var n) → subs m ts = ts
  | [], _ => rfl
  | t :: ts, h => by
    show sub m t :: subs m ts = t :: ts
    rw [sub_id m t fun n hn => h n (List.mem_append.mpr (.inl hn)), subs_id m ts fun n hn => h n (List.mem_append.mpr (.inr hn))]
end
theorem occs_mem {n : Int} : ∀ {ts : List Tm}, n ∈ occs ts ↔ ∃ t ∈ ts, n ∈ occ t
  | [] => ⟨fun h => (nomatch h), fun ⟨_, h, _⟩ => nomatch h⟩
  | t :: ts => by
    show n ∈ occ t ++ occs ts ↔ _
    rw [List.mem_append, occs_mem (ts := ts)]
    constructor
    · rintro (h | ⟨u, h1, h2⟩)
      · exact ⟨t, List.mem_cons_self .., h⟩
      · exact ⟨u, List.mem_cons_of_mem _ h1, h2⟩
    · rintro ⟨u, h1, h2⟩
      rcases List.mem_cons.mp h1 with e | h1
      · rw [e] at h2; exact .inl h2
      · exact .inr ⟨u, h1, h2⟩
/-- what stood there, put in again -/
theorem sub_rep (m : Int → Option Tm) {z : Int} {c : Tm} (hz : (m z).getD (.var z) = c) : ∀ (q : List Int) (t : Tm), at? q t = some c → z ∉ occ t → (∀ n ∈ occ (rep (.var z) q t), n ≠ z → (m n).getD (.var n) = .var n) → sub m (rep (.var z) q t) = t
  | [], t, h, _, _ => by
    cases (show some t = some c from h)
    exact hz
  | k :: q, .var _, h, _, _ => nomatch h
  | k :: q, .app f ts, h, ho, hi => by
    rw [at_cons_app] at h
    by_cases h1 : 1 ≤ k
    · rw [if_pos h1] at h
      cases ht : ts[(k - 1).toNat]? with
      | none => rw [ht] at h; cases h
      | some t =>
        rw [ht] at h
        have h : at? q t = some c := h
        have hk := (List.getElem?_eq_some_iff.mp ht).1
        have e : ts.getD (k - 1).toNat (.var z) = t := by rw [List.getD_eq_getElem?_getD, ht]; rfl
        have ho : z ∉ occs ts := ho
        have hi : ∀ n ∈ occs (ts.set (k - 1).toNat (rep (.var z) q (ts.getD (k - 1).toNat (.var z)))), n ≠ z → (m n).getD (.var n) = .var n := hi
        rw [e] at hi
        have mt := List.mem_of_getElem? ht
        have ih := sub_rep m hz q t h (fun w => ho (occs_mem.mpr ⟨t, mt, w⟩)) fun n hn => hi n (occs_mem.mpr ⟨_, List.mem_set hk _, hn⟩)
        show Tm.app f (subs m (ts.set (k - 1).toNat (rep (.var z) q (ts.getD (k - 1).toNat (.var z))))) = .app f ts
        rw [e]
        congr 1
        rw [subs_map]
        refine List.ext_getElem? fun j => ?_
        rw [List.getElem?_map, List.getElem?_set]
        by_cases hj : (k - 1).toNat = j
        · subst hj
          rw [if_pos rfl, if_pos hk, ht]
          exact congrArg some ih
        · rw [if_neg hj]
          cases gj : ts[j]? with
          | none => rfl
          | some u =>
            refine congrArg some (sub_id m u fun n hn => ?_)
            have mu := List.mem_of_getElem? gj
            refine hi n (occs_mem.mpr ⟨u, ?_, hn⟩) fun w => ho (occs_mem.mpr ⟨u, mu, by rw [← w]; exact hn⟩)
            exact List.mem_of_getElem? (i := j) (by rw [List.getElem?_set, if_neg hj, gj])
    · rw [if_neg h1] at h; cases h
end J

/-! ### sizes, places and variables behind a substitution and a replacement -/
namespace J
open PySem L2
mutual
theorem sub_szM (m : Int → Option Tm) (M D : Nat) (h1 : 1 ≤ M) : ∀ t : Tm, (∀ n ∈ occ t, ((m n).getD (.var n)).sz ≤ M ∧ ((m n).getD (.var n)).dep ≤ 1 + D) → (sub m t).sz ≤ M * t.sz ∧ (sub m t).dep ≤ t.dep + D
  | .var n, h => by
    have := h n (List.mem_singleton.mpr rfl)
    show ((m n).getD (.var n)).sz ≤ M * 1 ∧ ((m n).getD (.var n)).dep ≤ 1 + D
    rw [Nat.mul_one]; exact this
  | .app f ts, h => by
    have := subs_szM m M D h1 ts h
    show 1 + Tm.szs (subs m ts) ≤ M * (1 + Tm.szs ts) ∧ 1 + Tm.deps (subs m ts) ≤ 1 + Tm.deps ts + D
    rw [Nat.mul_add]
    omega
theorem subs_szM (m : Int → Option Tm) (M D : Nat) (h1 : 1 ≤ M) : ∀ ts : List Tm, (∀ n ∈ occs ts, ((m n).getD (.var n)).sz ≤ M ∧ ((m n).getD (.var n)).dep ≤ 1 + D) → Tm.szs (subs m ts) ≤ M * Tm.szs ts ∧ Tm.deps (subs m ts) ≤ Tm.deps ts + D
  | [], _ => ⟨Nat.zero_le _, Nat.zero_le _⟩
  | t :: ts, h => by
    have a := sub_szM m M D h1 t fun n hn => h n (List.mem_append.mpr (.inl hn))
    have b := subs_szM m M D h1 ts fun n hn => h n (List.mem_append.mpr (.inr hn))
    show (sub m t).sz + Tm.szs (subs m ts) ≤ M * (t.sz + Tm.szs ts) ∧ max (sub m t).dep (Tm.deps (subs m ts)) ≤ max t.dep (Tm.deps ts) + D
    rw [Nat.mul_add]
    omega
end
mutual
theorem sub_wf {fs : List Str} {B C : Int} (m : Int → Option Tm) : ∀ t : Tm, t.wf fs B → (∀ n ∈ occ t, ((m n).getD (.var n)).wf fs C) → (sub m t).wf fs C
  | .var n, _, h => h n (List.mem_singleton.mpr rfl)
  | .app f ts, w, h => by
    obtain ⟨⟨k, h1, h2⟩, w⟩ := (show (∃ k, fs[k]? = some f ∧ ts.length = ar k) ∧ Tm.wfs fs B ts from w)
    exact ⟨⟨k, h1, by rw [subs_map, List.length_map]; exact h2⟩, subs_wf m ts w h⟩
theorem subs_wf {fs : List Str} {B C : Int} (m : Int → Option Tm) : ∀ ts : List Tm, Tm.wfs fs B ts → (∀ n ∈ occs ts, ((m n).getD (.var n)).wf fs C) → Tm.wfs fs C (subs m ts)
  | [], _, _ => trivial
  | t :: ts, w, h => ⟨sub_wf m t w.1 fun n hn => h n (List.mem_append.mpr (.inl hn)), subs_wf m ts w.2 fun n hn => h n (List.mem_append.mpr (.inr hn))⟩
end
theorem at_wf {fs : List Str} {B : Int} : ∀ (q : List Int) (t c : Tm), at? q t = some c → t.wf fs B → c.wf fs B
  | [], t, c, h, w => by cases (show some t = some c from h); exact w
  | k :: q, .var _, _, h, _ => nomatch h
  | k :: q, .app f ts, c, h, w => by
    rw [at_cons_app] at h
    by_cases h1 : 1 ≤ k
    · rw [if_pos h1] at h
      cases ht : ts[(k - 1).toNat]? with
      | none => rw [ht] at h; cases h
      | some t =>
        rw [ht] at h
        exact at_wf q t c h (Tm.wf_of_mem w.2 (List.mem_of_getElem? ht))
    · rw [if_neg h1] at h; cases h
theorem at_occ : ∀ (q : List Int) (t c : Tm), at? q t = some c → ∀ n ∈ occ c, n ∈ occ t
  | [], t, c, h, n, hn => by cases (show some t = some c from h); exact hn
  | k :: q, .var _, _, h, _, _ => nomatch h
  | k :: q, .app f ts, c, h, n, hn => by
    rw [at_cons_app] at h
    by_cases h1 : 1 ≤ k
    · rw [if_pos h1] at h
      cases ht : ts[(k - 1).toNat]? with
      | none => rw [ht] at h; cases h
      | some t =>
        rw [ht] at h
        exact occs_mem.mpr ⟨t, List.mem_of_getElem? ht, at_occ q t c h n hn⟩
    · rw [if_neg h1] at h; cases h
theorem at_len : ∀ (q : List Int) (t c : Tm), at? q t = some c → q.length + c.dep ≤ t.dep
  | [], t, c, h => by cases (show some t = some c from h); show 0 + t.dep ≤ t.dep; omega
  | k :: q, .var _, _, h => nomatch h
  | k :: q, .app f ts, c, h => by
    rw [at_cons_app] at h
    by_cases h1 : 1 ≤ k
    · rw [if_pos h1] at h
      cases ht : ts[(k - 1).toNat]? with
      | none => rw [ht] at h; cases h
      | some t =>
        rw [ht] at h
        have ih := at_len q t c h
        have := Tm.dep_of_mem (List.mem_of_getElem? ht)
        show q.length + 1 + c.dep ≤ 1 + Tm.deps ts
        omega
    · rw [if_neg h1] at h; cases h
theorem szs_set : ∀ (l : List Tm) (j : Nat) (x y : Tm), l[j]? = some y → Tm.szs (l.set j x) + y.sz = Tm.szs l + x.sz
  | [], j, x, y, h => by simp at h
  | a :: r, 0, x, y, h => by
    have h : a = y := by simpa using h
    subst h
    show x.sz + Tm.szs r + a.sz = a.sz + Tm.szs r + x.sz
    omega
  | a :: r, j + 1, x, y, h => by
    have := szs_set r j x y (by simpa using h)
    show a.sz + Tm.szs (r.set j x) + y.sz = a.sz + Tm.szs r + x.sz
    omega
/-- what goes and what comes -/
theorem rep_sz (u : Tm) : ∀ (q : List Int) (t c : Tm), at? q t = some c → (rep u q t).sz + c.sz = t.sz + u.sz
  | [], t, c, h => by cases (show some t = some c from h); show u.sz + t.sz = t.sz + u.sz; omega
  | k :: q, .var _, _, h => nomatch h
  | k :: q, .app f ts, c, h => by
    rw [at_cons_app] at h
    by_cases h1 : 1 ≤ k
    · rw [if_pos h1] at h
      cases ht : ts[(k - 1).toNat]? with
      | none => rw [ht] at h; cases h
      | some t =>
        rw [ht] at h
        have ih := rep_sz u q t c h
        have e : ts.getD (k - 1).toNat u = t := by rw [List.getD_eq_getElem?_getD, ht]; rfl
        have := szs_set ts (k - 1).toNat (rep u q t) t ht
        show 1 + Tm.szs (ts.set (k - 1).toNat (rep u q (ts.getD (k - 1).toNat u))) + c.sz = 1 + Tm.szs ts + u.sz
        rw [e]
        omega
    · rw [if_neg h1] at h; cases h
/-- the variables of a term in which something was put -/
theorem occ_rep (u : Tm) : ∀ (q : List Int) (t : Tm), IsPos q t → ∀ n, n ∈ occ (rep u q t) → n ∈ occ t ∨ n ∈ occ u
  | [], _, _, _, h => .inr h
  | k :: q, .var _, h, _, _ => h.elim
  | k :: q, .app f ts, ⟨h1, t, ht, hp⟩, n, hn => by
    have e : ts.getD (k - 1).toNat u = t := by rw [List.getD_eq_getElem?_getD, ht]; rfl
    have hn : n ∈ occs (ts.set (k - 1).toNat (rep u q (ts.getD (k - 1).toNat u))) := hn
    rw [e] at hn
    obtain ⟨w, hw, hn⟩ := occs_mem.mp hn
    rcases List.mem_or_eq_of_mem_set hw with z | z
    · exact .inl (occs_mem.mpr ⟨w, z, hn⟩)
    · rw [z] at hn
      rcases occ_rep u q t hp n hn with z | z
      · exact .inl (occs_mem.mpr ⟨t, List.mem_of_getElem? ht, z⟩)
      · exact .inr z
theorem occ_rep_in (u : Tm) : ∀ (q : List Int) (t : Tm), IsPos q t → ∀ n ∈ occ u, n ∈ occ (rep u q t)
  | [], _, _, _, h => h
  | k :: q, .var _, h, _, _ => h.elim
  | k :: q, .app f ts, ⟨h1, t, ht, hp⟩, n, hn => by
    have hk := (List.getElem?_eq_some_iff.mp ht).1
    have e : ts.getD (k - 1).toNat u = t := by rw [List.getD_eq_getElem?_getD, ht]; rfl
    show n ∈ occs (ts.set (k - 1).toNat (rep u q (ts.getD (k - 1).toNat u)))
    rw [e]
    exact occs_mem.mpr ⟨_, List.mem_set hk _, occ_rep_in u q t hp n hn⟩
/-- a place stays a place -/
theorem isPos_sub (m : Int → Option Tm) : ∀ (q : List Int) (t : Tm), IsPos q t → IsPos q (sub m t)
  | [], _, _ => trivial
  | k :: q, .var _, h => h.elim
  | k :: q, .app f ts, ⟨h1, t, ht, hp⟩ => ⟨h1, sub m t, by rw [subs_map, List.getElem?_map, ht]; rfl, isPos_sub m q t hp⟩
theorem sub_rep_out (m : Int → Option Tm) (u : Tm) : ∀ (q : List Int) (t : Tm), IsPos q t → sub m (rep u q t) = rep (sub m u) q (sub m t)
  | [], _, _ => rfl
  | k :: q, .var _, h => h.elim
  | k :: q, .app f ts, ⟨h1, t, ht, hp⟩ => by
    have e : ts.getD (k - 1).toNat u = t := by rw [List.getD_eq_getElem?_getD, ht]; rfl
    have e2 : (subs m ts).getD (k - 1).toNat (sub m u) = sub m t := by rw [List.getD_eq_getElem?_getD, subs_map, List.getElem?_map, ht]; rfl
    show Tm.app f (subs m (ts.set (k - 1).toNat (rep u q (ts.getD (k - 1).toNat u)))) = Tm.app f ((subs m ts).set (k - 1).toNat (rep (sub m u) q ((subs m ts).getD (k - 1).toNat (sub m u))))
    rw [e, e2, subs_map, List.map_set, sub_rep_out m u q t hp, ← subs_map]
/-- xs[-1] -/
theorem at_neg1 {xs : List V} {v : V} (h : xs[xs.length - 1]? = some v) : atI xs (0 - 1) = some v := by
  have hn : xs ≠ [] := fun z => by rw [z] at h; simp at h
  have h1 := List.dropLast_concat_getLast hn
  have h2 : xs.getLast hn = v := by rw [List.getLast_eq_getElem]; exact (List.getElem?_eq_some_iff.mp h).2
  rw [← h1, h2]; exact atI_last _ _
theorem pos_ints : ∀ (q : List Int) (t : Tm), IsPos q t → ∀ k ∈ q, 1 ≤ k ∧ k ≤ (t.sz : Int)
  | [], _, _, k, hk => nomatch hk
  | _ :: _, .var _, h, _, _ => h.elim
  | j :: q, .app f ts, ⟨h1, t, ht, hp⟩, k, hk => by
    have hl := (List.getElem?_eq_some_iff.mp ht).1
    have := Tm.len_le ts
    have h3 := Tm.sz_arg (List.mem_of_getElem? ht)
    show 1 ≤ k ∧ k ≤ ((1 + Tm.szs ts : Nat) : Int)
    rcases List.mem_cons.mp hk with e | hk
    · subst e; omega
    · have := pos_ints q t hp k hk
      omega
/-! lists without a number twice -/
theorem nd_below : ∀ (B : Nat) (l : List Int), l.Nodup → (∀ x ∈ l, 0 ≤ x ∧ x < (B : Int)) → l.length ≤ B
  | 0, [], _, _ => Nat.le_refl _
  | 0, x :: _, _, h => by have := h x (List.mem_cons_self ..); omega
  | B + 1, l, nd, h => by
    have h1 : ((l.erase (B : Int)).length) ≤ B := nd_below B _ (nd.erase _) fun x hx => by
      have h2 := h x (List.mem_of_mem_erase hx)
      have h3 : x ≠ (B : Int) := fun e => by rw [e] at hx; exact nd.not_mem_erase hx
      omega
    have h2 := List.length_erase (a := (B : Int)) (l := l)
    by_cases z : (B : Int) ∈ l
    · rw [if_pos z] at h2; omega
    · rw [if_neg z] at h2; omega
theorem nd_same {l1 l2 : List Int} (h1 : l1.Nodup) (h2 : l2.Nodup) (h : ∀ x, x ∈ l1 ↔ x ∈ l2) : l1.length = l2.length := ((List.perm_ext_iff_of_nodup h1 h2).mpr h).length_eq
/-! tables -/
theorem look_app : ∀ (a b : List (Int × Tm)) (n : Int), look (a ++ b) n = (look a n).or (look b n)
  | [], _, _ => rfl
  | x :: a, b, n => by
    show (if x.1 = n then some x.2 else look (a ++ b) n) = (if x.1 = n then some x.2 else look a n).or (look b n)
    by_cases e : x.1 = n
    · rw [if_pos e, if_pos e]; rfl
    · rw [if_neg e, if_neg e]; exact look_app a b n
theorem look_some {tb : List (Int × Tm)} {n : Int} : look tb n ≠ none ↔ n ∈ tb.map (·.1) := by
  induction tb with
  | nil => exact ⟨fun h => absurd rfl h, fun h => nomatch h⟩
  | cons x l ih =>
    show (if x.1 = n then some x.2 else look l n) ≠ none ↔ n ∈ x.1 :: l.map (·.1)
    by_cases e : x.1 = n
    · rw [if_pos e]; exact ⟨fun _ => by rw [e]; exact List.mem_cons_self .., fun _ z => nomatch z⟩
    · rw [if_neg e, ih, List.mem_cons]
      exact ⟨.inr, fun z => z.elim (fun z => absurd z.symm e) id⟩
theorem look_ids {l : List Int} {n : Int} (h : n ∈ l) : look (l.map fun n => (n, Tm.var n)) n = some (.var n) := by
  induction l with
  | nil => cases h
  | cons a r ih =>
    show (if a = n then some (Tm.var a) else look (r.map fun n => (n, Tm.var n)) n) = _
    by_cases e : a = n
    · rw [if_pos e, e]
    · rw [if_neg e]; exact ih ((List.mem_cons.mp h).elim (fun z => absurd z.symm e) id)
/-- a step of the document: the equation L = R with the values tb, at q, leads from t to t' -/
structure Stp (fs : List Str) (t t' : Tm) (fwd : Bool) (q : List Int) (tb : List (Int × Tm)) (L R : Tm) : Prop where
  hat : at? q t = some (sub (look tb) (if fwd then L else R))
  res : t' = rep (sub (look tb) (if fwd then R else L)) q t
  len : tb.length = (adds (vars L) (vars R)).length
  has : ∀ n ∈ adds (vars L) (vars R), look tb n ≠ none
  few : tb.length ≤ 10
  nd : (tb.map (·.1)).Nodup
  wl : L.wf fs 10
  wr : R.wf fs 10
  wt : ∀ x ∈ tb, (0 ≤ x.1 ∧ x.1 < 10) ∧ x.2.wf fs 9 ∧ x.2.sz ≤ t.sz + 4 ∧ x.2.dep ≤ t.dep + 2
  zl : L.sz ≤ t.sz + 5 ∧ L.dep ≤ t.dep + 2
  zr : R.sz ≤ t.sz + 5 ∧ R.dep ≤ t.dep + 2
  w' : t'.wf fs 9
  z' : t'.sz ≤ t.sz + 16
  d' : t'.dep ≤ t.dep + 2
  du : (sub (look tb) (if fwd then R else L)).dep ≤ (sub (look tb) (if fwd then L else R)).dep + 2
  zu : (sub (look tb) (if fwd then R else L)).sz ≤ t.sz + 16
/-- the table of a drawn step: what the law puts into it -/
theorem stp_of {fs : List Str} {t c0 c N N1 : Tm} {q q1 : List Int} {tb : List (Int × Tm)} {l : List (Int × Tm)} (wt : t.wf fs 9) (hq : at? q t = some c0) (hc : at? q1 c0 = some c)
    (htb : tb = (9, c) :: ((vars (rep (.var 9) q1 c0)).filter (· ≠ 9)).map (fun n => (n, Tm.var n)) ++ l) (nd : (tb.map (·.1)).Nodup) (hl : ∀ x ∈ l, x.1 ∈ vars N1 ∧ x.2.wf fs 9 ∧ x.2.sz ≤ 4 ∧ x.2.dep ≤ 2) (hN1 : ∀ n ∈ vars N1, n ∈ tb.map (·.1))
    (wN : N.wf fs 9) (zN : N.sz ≤ 4) (dN : N.dep ≤ 2) (hN : N1 = N ∨ ∃ q2, IsPos q2 N ∧ N1 = rep (.var 9) q2 N) (fwd : Bool) {L R : Tm} (eL : (if fwd then L else R) = rep (.var 9) q1 c0) (eR : (if fwd then R else L) = N1) :
    Stp fs t (rep (sub (look tb) N1) q t) fwd q tb L R := by
  have ip1 : IsPos q1 c0 := (isPos_at q1 c0).mpr ⟨c, hc⟩
  have ip : IsPos q t := (isPos_at q t).mpr ⟨c0, hq⟩
  have zc := at_sz _ _ _ hc
  have z0 := at_sz _ _ _ hq
  have l0 := at_len _ _ _ hq
  have l1 := at_len _ _ _ hc
  have w0 := at_wf _ _ _ hq wt
  have wc := at_wf _ _ _ hc w0
  have cp := c.dep_pos
  have c0p := c0.dep_pos
  have tp := t.dep_pos
  have cz := c.sz_pos
  have one : (Tm.var 9).sz = 1 := rfl
  have one' : (Tm.var 9).dep = 1 := rfl
  have w9 : (Tm.var 9).wf fs 10 := ⟨by decide, by decide⟩
  -- the old side
  have wO : (rep (.var 9) q1 c0).wf fs 10 := rep_wf w9 q1 c0 (w0.mono (by decide)) ip1
  have zO := rep_sz (.var 9) q1 c0 c hc
  have dO := (rep_dep (.var 9) q1 c0 ip1).1
  have o9 : (9 : Int) ∉ occ c0 := fun z => by have := (occ_wf c0 w0 9 z).2; omega
  have in9 : (9 : Int) ∈ occ (rep (.var 9) q1 c0) := occ_rep_in (.var 9) q1 c0 ip1 9 (List.mem_singleton.mpr rfl)
  have lk9 : look tb 9 = some c := by rw [htb]; rfl
  have lkO : ∀ n ∈ occ (rep (.var 9) q1 c0), n ≠ 9 → look tb n = some (.var n) := fun n hn ne => by
    rw [htb, look_app]
    have e : look ((9, c) :: ((vars (rep (.var 9) q1 c0)).filter (· ≠ 9)).map (fun n => (n, Tm.var n))) n = some (.var n) := by
      show (if (9 : Int) = n then some c else look (((vars (rep (.var 9) q1 c0)).filter (· ≠ 9)).map (fun n => (n, Tm.var n))) n) = _
      rw [if_neg (fun z => ne z.symm)]
      exact look_ids (List.mem_filter.mpr ⟨(vars_mem _ _).mpr hn, by simpa using ne⟩)
    rw [e]; rfl
  have sO : sub (look tb) (rep (.var 9) q1 c0) = c0 := sub_rep (look tb) (by rw [lk9]; rfl) q1 c0 hc o9 fun n hn ne => by rw [lkO n hn ne]; rfl
  -- the values
  have vals : ∀ x ∈ tb, (x.1 = 9 ∧ x.2 = c) ∨ (x.1 ≠ 9 ∧ x.1 ∈ vars (rep (.var 9) q1 c0) ∧ x.2 = .var x.1) ∨ x ∈ l := fun x hx => by
    rw [htb] at hx
    rcases List.mem_append.mp hx with h | h
    · rcases List.mem_cons.mp h with h | h
      · rw [h]; exact .inl ⟨rfl, rfl⟩
      · obtain ⟨n, hn, rfl⟩ := List.mem_map.mp h
        obtain ⟨h1, h2⟩ := List.mem_filter.mp hn
        exact .inr (.inl ⟨by simpa using h2, h1, rfl⟩)
    · exact .inr (.inr h)
  have wO9 : ∀ n ∈ occ (rep (.var 9) q1 c0), n ≠ 9 → 0 ≤ n ∧ n < 9 := fun n hn ne => by
    rcases occ_rep (.var 9) q1 c0 ip1 n hn with z | z
    · exact occ_wf c0 w0 n z
    · exact absurd (List.mem_singleton.mp z) ne
  have wN1 : N1.wf fs 10 := by
    rcases hN with e | ⟨q2, ip2, e⟩
    · rw [e]; exact wN.mono (by decide)
    · rw [e]; exact rep_wf w9 q2 N (wN.mono (by decide)) ip2
  have wvals : ∀ x ∈ tb, (0 ≤ x.1 ∧ x.1 < 10) ∧ x.2.wf fs 9 ∧ x.2.sz ≤ t.sz + 4 ∧ x.2.dep ≤ t.dep + 2 := fun x hx => by
    rcases vals x hx with ⟨h1, h2⟩ | ⟨h1, h2, h3⟩ | h
    · rw [h1, h2]; exact ⟨by decide, wc, by omega, by omega⟩
    · have := wO9 x.1 ((vars_mem _ _).mp h2) h1
      have e1 : x.2.sz = 1 := by rw [h3]; rfl
      have e2 : x.2.dep = 1 := by rw [h3]; rfl
      have e3 : x.2.wf fs 9 := by rw [h3]; exact this
      exact ⟨by omega, e3, by omega, by omega⟩
    · obtain ⟨h1, h2, h3, h4⟩ := hl x h
      have := occ_wf N1 wN1 x.1 ((vars_mem _ _).mp h1)
      exact ⟨this, h2, by omega, by omega⟩
  have low : ∀ n, n ≠ 9 → ((look tb n).getD (.var n)).sz ≤ 4 ∧ ((look tb n).getD (.var n)).dep ≤ 1 + 1 := fun n ne => by
    cases e : look tb n with
    | none => exact ⟨by show 1 ≤ 4; decide, by show 1 ≤ 2; decide⟩
    | some u =>
      have h := vals _ (look_mem e)
      rcases h with ⟨h1, _⟩ | ⟨_, _, h3⟩ | h
      · exact absurd h1 ne
      · have h3 : u = .var n := h3
        rw [h3]; exact ⟨by show 1 ≤ 4; decide, by show 1 ≤ 2; decide⟩
      · exact ⟨(hl _ h).2.2.1, (hl _ h).2.2.2⟩
  have nN : ∀ n ∈ occ N, n ≠ 9 := fun n hn z => by have := (occ_wf N wN n hn).2; omega
  have sN := sub_szM (look tb) 4 1 (by decide) N fun n hn => low n (nN n hn)
  have wfv : ∀ n, n ∈ tb.map (·.1) → ((look tb n).getD (.var n)).wf fs 9 := fun n hn => by
    cases e : look tb n with
    | none => exact absurd e (look_some.mpr hn)
    | some u => exact (wvals _ (look_mem e)).2.1
  have wU : (sub (look tb) N1).wf fs 9 := sub_wf (look tb) N1 wN1 fun n hn => wfv n (hN1 n ((vars_mem _ _).mpr hn))
  have zU : (sub (look tb) N1).sz ≤ c.sz + 16 ∧ (sub (look tb) N1).dep ≤ max 3 (1 + c.dep) := by
    rcases hN with e | ⟨q2, ip2, e⟩
    · rw [e]; omega
    · obtain ⟨u2, hu2⟩ := (isPos_at q2 N).mp ip2
      have l2 := at_len _ _ _ hu2
      have p2 := u2.dep_pos
      have e1 : sub (look tb) (.var 9) = c := by show (look tb 9).getD (.var 9) = c; rw [lk9]; rfl
      rw [e, sub_rep_out (look tb) (.var 9) q2 N ip2, e1]
      have := rep_dep c q2 (sub (look tb) N) (isPos_sub (look tb) q2 N ip2)
      omega
  have zN1 : N1.sz ≤ 5 ∧ N1.dep ≤ 2 := by
    rcases hN with e | ⟨q2, ip2, e⟩
    · rw [e]; omega
    · obtain ⟨u2, hu2⟩ := (isPos_at q2 N).mp ip2
      have l2 := at_len _ _ _ hu2
      have p2 := u2.dep_pos
      have := rep_dep (.var 9) q2 N ip2
      rw [e]; omega
  have rz := rep_sz (sub (look tb) N1) q t c0 hq
  have rd := (rep_dep (sub (look tb) N1) q t ip).1
  have keys : ∀ n, n ∈ tb.map (·.1) ↔ n ∈ occ (rep (.var 9) q1 c0) ∨ n ∈ occ N1 := fun n => by
    constructor
    · intro h
      obtain ⟨x, hx, rfl⟩ := List.mem_map.mp h
      rcases vals x hx with ⟨h1, _⟩ | ⟨_, h2, _⟩ | h
      · rw [h1]; exact .inl in9
      · exact .inl ((vars_mem _ _).mp h2)
      · exact .inr ((vars_mem _ _).mp (hl x h).1)
    · rintro (h | h)
      · by_cases ne : n = 9
        · rw [ne]; exact look_some.mp (by rw [lk9]; exact fun z => nomatch z)
        · exact look_some.mp (by rw [lkO n h ne]; exact fun z => nomatch z)
      · exact hN1 n ((vars_mem _ _).mpr h)
  have memLR : ∀ n, n ∈ adds (vars L) (vars R) ↔ n ∈ tb.map (·.1) := fun n => by
    rw [adds_mem, vars_mem, vars_mem, keys]
    cases fwd
    · rw [← show R = rep (.var 9) q1 c0 from eL, ← show L = N1 from eR]; exact Or.comm
    · rw [← show L = rep (.var 9) q1 c0 from eL, ← show R = N1 from eR]
  have ln : tb.length = (adds (vars L) (vars R)).length := by
    rw [← List.length_map (f := fun x : Int × Tm => x.1)]
    exact nd_same nd (adds_nodup _ _ (adds_nodup _ _ List.nodup_nil)) fun n => (memLR n).symm
  have fw : tb.length ≤ 10 := by
    rw [← List.length_map (f := fun x : Int × Tm => x.1)]
    refine nd_below 10 _ nd fun n hn => ?_
    obtain ⟨x, hx, rfl⟩ := List.mem_map.mp hn
    exact (wvals x hx).1
  have two : (L.wf fs 10 ∧ L.sz ≤ t.sz + 5 ∧ L.dep ≤ t.dep + 2) ∧ (R.wf fs 10 ∧ R.sz ≤ t.sz + 5 ∧ R.dep ≤ t.dep + 2) := by
    have hO : (rep (.var 9) q1 c0).wf fs 10 ∧ (rep (.var 9) q1 c0).sz ≤ t.sz + 5 ∧ (rep (.var 9) q1 c0).dep ≤ t.dep + 2 := ⟨wO, by omega, by omega⟩
    have hN : N1.wf fs 10 ∧ N1.sz ≤ t.sz + 5 ∧ N1.dep ≤ t.dep + 2 := ⟨wN1, by omega, by omega⟩
    cases fwd
    · rw [show R = rep (.var 9) q1 c0 from eL, show L = N1 from eR]; exact ⟨hN, hO⟩
    · rw [show L = rep (.var 9) q1 c0 from eL, show R = N1 from eR]; exact ⟨hO, hN⟩
  refine { hat := by rw [eL, sO]; exact hq, res := by rw [eR], len := ln, has := fun n hn => look_some.mpr ((memLR n).mp hn), few := fw, nd := nd, wl := two.1.1, wr := two.2.1, wt := wvals, zl := two.1.2, zr := two.2.2, w' := rep_wf wU q t wt ip, z' := by omega, d' := by omega, du := by rw [eR, eL, sO]; omega, zu := by rw [eR]; omega }
end J

namespace J
open PySem L2
/-! ### while xs:, the measure told by the invariant -/
theorem least_of (P : Nat → Prop) (h : ∃ m, P m) : ∃ m, P m ∧ ∀ k, P k → m ≤ k := by
  obtain ⟨m, hm⟩ := h
  induction m using Nat.strongRecOn with
  | _ m ih =>
    by_cases z : ∃ k, k < m ∧ P k
    · obtain ⟨k, hk, pk⟩ := z
      exact ih k hk pk
    · exact ⟨m, hm, fun k pk => Nat.le_of_not_lt fun hk => z ⟨k, hk, pk⟩⟩
open Classical in
noncomputable def mu (P : Nat → L2.St → Hp → Prop) (σ : L2.St) (H : Hp) : Nat := if h : ∃ m, P m σ H then Classical.choose (least_of _ h) else 0
theorem mu_at {P : Nat → L2.St → Hp → Prop} {σ : L2.St} {H : Hp} (h : ∃ m, P m σ H) : P (mu P σ H) σ H := by
  unfold mu
  rw [dif_pos h]
  exact (Classical.choose_spec (least_of _ h)).1
theorem mu_le {P : Nat → L2.St → Hp → Prop} {σ : L2.St} {H : Hp} {m : Nat} (h : P m σ H) : mu P σ H ≤ m := by
  unfold mu
  rw [dif_pos ⟨m, h⟩]
  exact (Classical.choose_spec (least_of _ ⟨m, h⟩)).2 m h
/-- what a turn leaves -/
def WLess (P : Nat → L2.St → Hp → Prop) (m : Nat) (σ : L2.St) (H : Hp) : Prop := (∃ k, P k σ H) ∧ mu P σ H < m
theorem less_of {P : Nat → L2.St → Hp → Prop} {m k : Nat} {σ : L2.St} {H : Hp} (h : P k σ H) (hk : k < m) : WLess P m σ H := ⟨⟨k, h⟩, Nat.lt_of_le_of_lt (mu_le h) hk⟩
theorem while_listM {K : PySem.W.Frag} {i : Nat} {tb : TS} {D : Ends} {σ : L2.St} {H : Hp} (P : Nat → L2.St → Hp → Prop) (m0 : Nat) (h0 : P m0 σ H)
    (hs : ∀ m σ H, P m σ H → ∃ p xs, σ[i]? = some (some (.ref p)) ∧ H p = some (.lst xs) ∧ (xs = [] → D.nx σ H) ∧ (xs ≠ [] → tb { D with nx := WLess P m, ct := WLess P m, bk := D.nx } σ H)) :
    tWhile (fun σ H Q => tVar i σ H fun x H' => ∃ k, TruV K x H' k ∧ Q k H') tb D σ H :=
  while_list (fun σ H => ∃ m, P m σ H) (mu P) ⟨m0, h0⟩ fun σ H p => hs _ σ H (mu_at p)
end J

/-! ### a method of a try's body, which may raise -/
namespace J
open PySem L2 PyProof.Rows
section
variable {X : Cx} {CX : CXT} {k : Nat} {f C : Addr} {fd : FuncData} {ps : List Str} {sp : Sp} {E : L2.St → XK} {m : Str} {apos pos : Pos} {e o : Expr} {es : List Expr} {ta : TE} {t : TA}
def tMethS (C : Addr) (m : Str) (sp : Sp) (E : L2.St → XK) (ta : TE) (t : TA) : TE := fun σ H Q => ta σ H fun x H1 => ∃ a dx fs, x = .ref a ∧ H1 a = some (.ins C dx fs) ∧ fs.lookup m = none ∧ t σ H1 fun vs H2 => sp (x :: vs) H2 Q (E σ)
theorem pe_methS {pl : Sem Bool} (he : PE X o ta) (c : Cls X.K C) (hm : Meth X.K C m f) (F : FnOk X.prog X.w X.K X.mg X.base CX k f fd ps sp) (hr : Room k X.A) (hb : Binds X.K fd ps []) (hx : ∀ σ, PassesAt CX X σ (E σ)) (ha : PA X (e :: es) t)
    (hst : starEach (e :: es) X.env = (false, eval e X.env) :: starEach es X.env := by rfl) (hpl : (backTo pos (starEach es X.env)).any (·.1) = false := by rfl)
    (ht : eval (.Call (.Attribute o m apos) (e :: es) [] pos) X.env = (do
      let ov ← eval o X.env
      standAt apos.atName
      let (f, first) ← holding [ov] (getMethod ov m pl)
      callWith pos f first (backTo pos (starEach (e :: es) X.env)) (backToKw pos (keywordEach [] X.env))) := by rfl) :
    PE X (.Call (.Attribute o m apos) (e :: es) [] pos) (tMethS C m sp E ta t) := by
  refine ⟨fun pins s σ H Q I h => ?_⟩
  refine PySem.W.methodCall_KW (pl := pl) (thn (he.run pins s σ H _ I h) fun u s1 ⟨x, H1, I1, rx, a, dx, fs, ex, ea, l, q⟩ => ?_) ht
  subst ex
  obtain rfl : u = Value.ref a := rx
  refine getmeth_ok I1 ea c hm l ?_
  refine PySem.W.callWith_K (first := [.ref a]) (h₀ := X.base) I.ok.mod.kin hm.kp (thn (ha.run pos pins s1 σ H1 _ I1 q) fun us s2 ⟨vs, H2, I2, r, q2⟩ => ⟨I2.kIn, ?_⟩) hst hpl
  exact run_fnS (us := .ref a :: us) (vs := .ref a :: vs) F hr hb (hx σ) I2 (.cons rfl r) q2
end
end J

/-! ### a signature in the heap -/
namespace J
open PySem L2
/-- a declared operation: its name, its arity, its flag -/
structure Opn where
  nm : Str
  ar : Nat
  cm : Bool
def kvA (es : List Opn) : List (Key × V) := es.map fun e => (.inr e.nm, .int (e.ar : Int))
def kvF (es : List Opn) : List (Key × V) := es.map fun e => (.inr e.nm, .bl e.cm)
def kvR : Nat → List Opn → List (Key × V)
  | _, [] => []
  | i, e :: es => (.inr e.nm, .int (i : Int)) :: kvR (i + 1) es
theorem kvR_len : ∀ (i : Nat) (es : List Opn), (kvR i es).length = es.length
  | _, [] => rfl
  | i, _ :: es => congrArg (· + 1) (kvR_len (i + 1) es)
theorem kvR_snoc : ∀ (i : Nat) (es : List Opn) (e : Opn), kvR i (es ++ [e]) = kvR i es ++ [(.inr e.nm, .int ((i + es.length : Nat) : Int))]
  | _, [], _ => rfl
  | i, x :: es, e => by
    show _ :: kvR (i + 1) (es ++ [e]) = _ :: (kvR (i + 1) es ++ _)
    rw [kvR_snoc (i + 1) es e, List.length_cons, show i + 1 + es.length = i + (es.length + 1) by omega]
theorem kv_none {g : Opn → V} {f : Str} : ∀ {es : List Opn}, f ∉ es.map (·.nm) → valV (es.map fun e => ((.inr e.nm : Key), g e)) (.inr f) = none
  | [], _ => rfl
  | e :: es, h => by
    have h1 : e.nm ≠ f := fun z => h (by rw [← z]; exact List.mem_cons_self ..)
    show valV ((.inr e.nm, g e) :: es.map fun e => ((.inr e.nm : Key), g e)) (.inr f) = none
    rw [valV_neg (fun z => h1 (Sum.inr.inj z))]
    exact kv_none fun m => h (List.mem_cons_of_mem _ m)
theorem kv_some {g : Opn → V} {e : Opn} : ∀ {es : List Opn}, (es.map (·.nm)).Nodup → e ∈ es → valV (es.map fun e => ((.inr e.nm : Key), g e)) (.inr e.nm) = some (g e)
  | [], _, h => nomatch h
  | x :: es, nd, h => by
    have nd := List.nodup_cons.mp nd
    by_cases z : x.nm = e.nm
    · rcases List.mem_cons.mp h with q | q
      · rw [← q]; exact valV_pos rfl
      · exact absurd (List.mem_map.mpr ⟨e, q, z.symm⟩) nd.1
    · rcases List.mem_cons.mp h with q | q
      · exact absurd (by rw [q]) z
      · show valV ((.inr x.nm, g x) :: es.map fun e => ((.inr e.nm : Key), g e)) (.inr e.nm) = _
        rw [valV_neg (fun w => z (Sum.inr.inj w))]
        exact kv_some nd.2 q
theorem kvR_none {f : Str} : ∀ {i : Nat} {es : List Opn}, f ∉ es.map (·.nm) → valV (kvR i es) (.inr f) = none
  | _, [], _ => rfl
  | i, e :: es, h => by
    have h1 : e.nm ≠ f := fun z => h (by rw [← z]; exact List.mem_cons_self ..)
    show valV ((.inr e.nm, _) :: kvR (i + 1) es) (.inr f) = none
    rw [valV_neg (fun z => h1 (Sum.inr.inj z))]
    exact kvR_none fun m => h (List.mem_cons_of_mem _ m)
theorem kvR_some {e : Opn} : ∀ {i j : Nat} {es : List Opn}, (es.map (·.nm)).Nodup → es[j]? = some e → valV (kvR i es) (.inr e.nm) = some (.int ((i + j : Nat) : Int))
  | _, _, [], _, h => by cases h
  | i, 0, x :: es, _, h => by
    cases (show some x = some e from h)
    exact valV_pos rfl
  | i, j + 1, x :: es, nd, h => by
    have nd := List.nodup_cons.mp nd
    have h : es[j]? = some e := h
    have z : x.nm ≠ e.nm := fun z => nd.1 (List.mem_map.mpr ⟨e, List.mem_of_getElem? h, z.symm⟩)
    show valV ((.inr x.nm, _) :: kvR (i + 1) es) (.inr e.nm) = _
    rw [valV_neg (fun w => z (Sum.inr.inj w)), kvR_some nd.2 h, show i + 1 + j = i + (j + 1) by omega]
theorem putA {es : List Opn} {e : Opn} (nin : e.nm ∉ es.map (·.nm)) : putK (kvA es) (.inr e.nm) (.int (e.ar : Int)) = kvA (es ++ [e]) := by
  rw [putK_new _ (show valV (kvA es) _ = none from kv_none nin)]; unfold kvA; rw [List.map_append]; rfl
theorem putFl {es : List Opn} {e : Opn} (nin : e.nm ∉ es.map (·.nm)) : putK (kvF es) (.inr e.nm) (.bl e.cm) = kvF (es ++ [e]) := by
  rw [putK_new _ (show valV (kvF es) _ = none from kv_none nin)]; unfold kvF; rw [List.map_append]; rfl
theorem putR {es : List Opn} {e : Opn} (nin : e.nm ∉ es.map (·.nm)) : putK (kvR 0 es) (.inr e.nm) (.int (es.length : Int)) = kvR 0 (es ++ [e]) := by
  rw [putK_new _ (kvR_none nin), kvR_snoc, Nat.zero_add]
/-- the signature at p: its list of names at n, its dicts at d1, d2, d3 -/
structure SigAt (C : Addr) (H : Hp) (p dx n d1 d2 d3 : Addr) (es : List Opn) : Prop where
  ob : H p = some (.ins C dx [("_names", .ref n), ("_arities", .ref d1), ("_ranks", .ref d2), ("_flags", .ref d3)])
  nl : H n = some (.lst ((es.map (·.nm)).map V.str))
  a1 : H d1 = some (.dK (kvA es))
  a2 : H d2 = some (.dK (kvR 0 es))
  a3 : H d3 = some (.dK (kvF es))
  n12 : d1 ≠ d2
  n13 : d1 ≠ d3
  n23 : d2 ≠ d3
  nd : (es.map (·.nm)).Nodup
theorem SigAt.keep {C : Addr} {H H' : Hp} {p dx n d1 d2 d3 : Addr} {es : List Opn} (h : SigAt C H p dx n d1 d2 d3 es) (k : ∀ a o, H a = some o → a ∈ [p, n, d1, d2, d3] → H' a = some o) : SigAt C H' p dx n d1 d2 d3 es :=
  ⟨k _ _ h.ob (by simp), k _ _ h.nl (by simp), k _ _ h.a1 (by simp), k _ _ h.a2 (by simp), k _ _ h.a3 (by simp), h.n12, h.n13, h.n23, h.nd⟩
theorem SigAt.same {C : Addr} {H H' : Hp} {p dx n d1 d2 d3 : Addr} {es : List Opn} (h : SigAt C H p dx n d1 d2 d3 es) (s : Same H H') : SigAt C H' p dx n d1 d2 d3 es := h.keep fun a o e _ => s a o e
/-- what may be declared -/
structure OpnOk (e : Opn) : Prop where
  low : Low e.nm
  lo : 1 ≤ e.nm.length
  hi : e.nm.length ≤ 8
  ar : e.ar ≤ 3
  cm : e.cm = true → e.ar = 2
/-- a list of pairs (name, arity) at o -/
def OpsAt (H : Hp) (o : Addr) (es : List Opn) : Prop := ∃ as : List Addr, H o = some (.lst (as.map V.ref)) ∧ as.length = es.length ∧
  ∀ (k : Nat) (e : Opn) (a : Addr), es[k]? = some e → as[k]? = some a → H a = some (.tup [.str e.nm, .int (e.ar : Int)])
theorem OpsAt.same {H H' : Hp} {o : Addr} {es : List Opn} (h : OpsAt H o es) (b : Same H H') : OpsAt H' o es := by
  obtain ⟨as, h1, h2, h3⟩ := h
  exact ⟨as, b _ _ h1, h2, fun k e a x y => b _ _ (h3 k e a x y)⟩
theorem nd_take : ∀ {es : List Opn} {i : Nat} {e : Opn}, (es.map (·.nm)).Nodup → es[i]? = some e → e.nm ∉ (es.take i).map (·.nm)
  | [], _, _, _, h => by cases h
  | _ :: _, 0, _, _, _ => fun m => nomatch m
  | x :: es, i + 1, e, nd, h => fun m => by
    have nd := List.nodup_cons.mp nd
    have h : es[i]? = some e := h
    rcases List.mem_cons.mp (show e.nm ∈ x.nm :: (es.take i).map (·.nm) from m) with z | z
    · exact nd.1 (List.mem_map.mpr ⟨e, List.mem_of_getElem? h, z⟩)
    · exact nd_take nd.2 h z
/-! its fields -/
theorem sg_ne {f g : Str} {v y : V} {r : List (Str × V)} (h : ¬ g = f) : putF f y ((g, v) :: r) = (g, v) :: putF f y r := if_neg h
theorem sg_f2 (a b : V) : putF ("_arities" : Str) b [(("_names" : Str), a)] = [(("_names" : Str), a), (("_arities" : Str), b)] := by rw [sg_ne (by decide +kernel)]; rfl
theorem sg_f3 (a b c : V) : putF ("_ranks" : Str) c [(("_names" : Str), a), (("_arities" : Str), b)] = [(("_names" : Str), a), (("_arities" : Str), b), (("_ranks" : Str), c)] := by rw [sg_ne (by decide +kernel), sg_ne (by decide +kernel)]; rfl
theorem sg_f4 (a b c d : V) : putF ("_flags" : Str) d [(("_names" : Str), a), (("_arities" : Str), b), (("_ranks" : Str), c)] = [(("_names" : Str), a), (("_arities" : Str), b), (("_ranks" : Str), c), (("_flags" : Str), d)] := by rw [sg_ne (by decide +kernel), sg_ne (by decide +kernel), sg_ne (by decide +kernel)]; rfl
section
variable (a b c d : V)
theorem sg_names : ([(("_names" : Str), a), (("_arities" : Str), b), (("_ranks" : Str), c), (("_flags" : Str), d)] : List (Str × V)).lookup ("_names" : Str) = some a := by
  rw [List.lookup_cons, show ((("_names" : Str) == ("_names" : Str)) = true) by decide +kernel]
theorem sg_arities : ([(("_names" : Str), a), (("_arities" : Str), b), (("_ranks" : Str), c), (("_flags" : Str), d)] : List (Str × V)).lookup ("_arities" : Str) = some b := by
  rw [List.lookup_cons, show ((("_arities" : Str) == ("_names" : Str)) = false) by decide +kernel]
  show List.lookup _ _ = _
  rw [List.lookup_cons, show ((("_arities" : Str) == ("_arities" : Str)) = true) by decide +kernel]
theorem sg_ranks : ([(("_names" : Str), a), (("_arities" : Str), b), (("_ranks" : Str), c), (("_flags" : Str), d)] : List (Str × V)).lookup ("_ranks" : Str) = some c := by
  rw [List.lookup_cons, show ((("_ranks" : Str) == ("_names" : Str)) = false) by decide +kernel]
  show List.lookup _ _ = _
  rw [List.lookup_cons, show ((("_ranks" : Str) == ("_arities" : Str)) = false) by decide +kernel]
  show List.lookup _ _ = _
  rw [List.lookup_cons, show ((("_ranks" : Str) == ("_ranks" : Str)) = true) by decide +kernel]
theorem sg_flags : ([(("_names" : Str), a), (("_arities" : Str), b), (("_ranks" : Str), c), (("_flags" : Str), d)] : List (Str × V)).lookup ("_flags" : Str) = some d := by
  rw [List.lookup_cons, show ((("_flags" : Str) == ("_names" : Str)) = false) by decide +kernel]
  show List.lookup _ _ = _
  rw [List.lookup_cons, show ((("_flags" : Str) == ("_arities" : Str)) = false) by decide +kernel]
  show List.lookup _ _ = _
  rw [List.lookup_cons, show ((("_flags" : Str) == ("_ranks" : Str)) = false) by decide +kernel]
  show List.lookup _ _ = _
  rw [List.lookup_cons, show ((("_flags" : Str) == ("_flags" : Str)) = true) by decide +kernel]
theorem sg_no {m : Str} (h1 : (m == ("_names" : Str)) = false) (h2 : (m == ("_arities" : Str)) = false) (h3 : (m == ("_ranks" : Str)) = false) (h4 : (m == ("_flags" : Str)) = false) : ([(("_names" : Str), a), (("_arities" : Str), b), (("_ranks" : Str), c), (("_flags" : Str), d)] : List (Str × V)).lookup m = none := by
  rw [List.lookup_cons, h1]
  show List.lookup _ _ = _
  rw [List.lookup_cons, h2]
  show List.lookup _ _ = _
  rw [List.lookup_cons, h3]
  show List.lookup _ _ = _
  rw [List.lookup_cons, h4]; rfl
end
/-! ### o.m(e, .., k = v, ..) -/
def tMethN (C : Addr) (m : Str) (n j : Nat) (sp : Sp) (gV : List V → List V → List V) (E : XK) (ta : TE) (t tk : TA) : TE := fun σ H Q => ta σ H fun x H1 => ∃ a dx fs, x = .ref a ∧ H1 a = some (.ins C dx fs) ∧ fs.lookup m = none ∧
  t σ H1 fun vs H2 => tk σ H2 fun zs H3 => vs.length + 1 = n ∧ zs.length = j ∧ sp (gV (x :: vs) zs) H3 Q E
section
variable {X : Cx} {CX : CXT} {k n : Nat} {f C : Addr} {fd : FuncData} {ps ks : List Str} {sp : Sp} {E : XK} {m : Str} {pos apos : Pos} {e o : Expr} {es : List Expr} {kws : List Keyword} {ta : TE} {t tk : TA} {g : List Value → List Value → List Value} {gV : List V → List V → List V}
theorem pe_methN {pl : Sem Bool} (he : PE X o ta) (c : Cls X.K C) (hm : Meth X.K C m f) (F : FnOk X.prog X.w X.K X.mg X.base CX k f fd ps sp) (hr : Room k X.A) (hb : KBn X.K fd ps n ks g gV) (hx : Passes CX X E) (ha : PA X (e :: es) t) (hkw : PK X kws tk)
    (hall : (backToKw pos (keywordEach kws X.env)).all (·.1.isSome) = true := by rfl) (hks : (backToKw pos (keywordEach kws X.env)).filterMap (·.1) = ks := by rfl)
    (hst : starEach (e :: es) X.env = (false, eval e X.env) :: starEach es X.env := by rfl) (hpl : ((backTo pos (starEach (e :: es) X.env)).any (·.1) || (backToKw pos (keywordEach kws X.env)).any (·.1.isNone)) = false := by rfl)
    (ht : eval (.Call (.Attribute o m apos) (e :: es) kws pos) X.env = (do
      let ov ← eval o X.env
      standAt apos.atName
      let (f, first) ← holding [ov] (getMethod ov m pl)
      callWith pos f first (backTo pos (starEach (e :: es) X.env)) (backToKw pos (keywordEach kws X.env))) := by rfl) :
    PE X (.Call (.Attribute o m apos) (e :: es) kws pos) (tMethN C m n ks.length sp gV E ta t tk) := by
  refine ⟨fun pins s σ H Q I h => ?_⟩
  refine PySem.W.methodCall_KW (pl := pl) (thn (he.run pins s σ H _ I h) fun u s1 ⟨x, H1, I1, rx, a, dx, fs, ex, ea, l, q⟩ => ?_) ht
  subst ex
  obtain rfl : u = Value.ref a := rx
  refine getmeth_ok I1 ea c hm l ?_
  refine PySem.W.callWith_KW (first := [.ref a]) (h₀ := X.base) I.ok.mod.kin hm.kp hall (thn (ha.run pos pins s1 σ H1 _ I1 q) fun us s2 ⟨vs, H2, I2, r, q2⟩ => ?_) hpl hst
  refine thn (hkw.run pos pins s2 σ H2 _ I2 q2) fun ws s3 ⟨zs, H3, I3, rz, l1, l2, q3⟩ => ⟨I3.kIn, ?_⟩
  rw [hks]
  exact run_fnN (us := .ref a :: us) (vs := .ref a :: vs) F hr hb hx I3 (.cons rfl r) rz l1 l2 q3
end
/-- every parameter is written, some by keyword -/
theorem kbn_all {K : PySem.W.Frag} {x qual : Str} {params : Arguments} {body : List Stmt} {scope : Scope} {kws : List (Str × V)} {f : Addr} {fd : FuncData} {ps : List Str} (F : FunD K x qual params body scope [] kws f fd) (n : Nat) (ks : List Str)
    (h : ∀ (kV doc pm : Value) (an : Option Addr) (cdv ct : Value) (us ws : List Value), us.length = n → ws.length = ks.length → bindArgs (PySem.W.fnOf x qual params body scope .none kV doc pm an cdv ct) ⟨us, ks.zip ws⟩ = pure (ps.zip (us ++ ws))) :
    KBn K fd ps n ks (fun us ws => us ++ ws) (fun vs zs => vs ++ zs) := by
  obtain ⟨oc, od, dV, kV, doc, pm, an, cdv, ct, osl, rfl, lk, hcd, hD, hK⟩ := F.ex
  rcases hD with ⟨_, rfl⟩ | ⟨e, _⟩
  · exact ⟨fun s us ws _ l1 l2 => .of_eq (h kV doc pm an cdv ct us ws l1 l2), fun r1 r2 => r1.append r2⟩
  · exact absurd rfl e
end J

/-! ### a run has one end: what two promises say of a call holds together -/
namespace J
open PySem
theorem runs_det {M : Model} {Γ : Ctx} {p : Pos} {t : Sem Fin} {fs : List Frame} {s s' : Shared} {e : End} (h : Runs M Γ p t fs s e s') : ∀ {e2 : End} {s2 : Shared}, Runs M Γ p t fs s e2 s2 → e = e2 ∧ s' = s2 := by
  induction h with
  | load e0 _ ih => intro _ _ h; cases h with | load e1 h1 => cases e0.symm.trans e1; exact ih h1
  | genState e0 _ ih => intro _ _ h; cases h with | genState e1 h1 => cases e0.symm.trans e1; exact ih h1
  | call _ _ ih1 ih2 =>
    intro _ _ h
    cases h with
    | call h1 h2 => obtain ⟨a, b⟩ := ih1 h1; cases a; cases b; exact ih2 h2
    | callSusp h1 => obtain ⟨a, b⟩ := ih1 h1; cases a
  | callSusp _ ih1 =>
    intro _ _ h
    cases h with
    | call h1 h2 => obtain ⟨a, b⟩ := ih1 h1; cases a
    | callSusp h1 => obtain ⟨a, b⟩ := ih1 h1; cases a; cases b; exact ⟨rfl, rfl⟩
  | resumeFresh e0 _ q0 _ ih1 ih2 =>
    intro _ _ h
    cases h with
    | resumeFresh e1 h1 q1 h2 => cases e0.symm.trans e1; obtain ⟨a, b⟩ := ih1 h1; cases a; cases b; exact ih2 h2
    | resumeSuspended e1 h1 q1 h2 => cases e0.symm.trans e1
    | resumeJustStarted e1 n1 h1 => exact absurd rfl n1
    | resumeRunning e1 h1 => cases e0.symm.trans e1
    | resumeFinished e1 h1 => cases e0.symm.trans e1
  | resumeSuspended e0 _ q0 _ ih1 ih2 =>
    intro _ _ h
    cases h with
    | resumeFresh e1 h1 q1 h2 => cases e0.symm.trans e1
    | resumeSuspended e1 h1 q1 h2 => cases e0.symm.trans e1; obtain ⟨a, b⟩ := ih1 h1; cases a; cases b; exact ih2 h2
    | resumeJustStarted e1 n1 h1 => cases e0.symm.trans e1
    | resumeThrowFresh e1 h1 => cases e0.symm.trans e1
    | resumeRunning e1 h1 => cases e0.symm.trans e1
    | resumeFinished e1 h1 => cases e0.symm.trans e1
  | resumeJustStarted e0 n0 _ ih =>
    intro _ _ h
    cases h with
    | resumeFresh e1 h1 q1 h2 => exact absurd rfl n0
    | resumeSuspended e1 h1 q1 h2 => cases e0.symm.trans e1
    | resumeJustStarted e1 n1 h1 => exact ih h1
    | resumeRunning e1 h1 => cases e0.symm.trans e1
    | resumeFinished e1 h1 => cases e0.symm.trans e1
  | resumeThrowFresh e0 _ ih =>
    intro _ _ h
    cases h with
    | resumeSuspended e1 h1 q1 h2 => cases e0.symm.trans e1
    | resumeThrowFresh e1 h1 => exact ih h1
    | resumeRunning e1 h1 => cases e0.symm.trans e1
    | resumeFinished e1 h1 => cases e0.symm.trans e1
  | resumeRunning e0 _ ih =>
    intro _ _ h
    cases h with
    | resumeFresh e1 h1 q1 h2 => cases e0.symm.trans e1
    | resumeSuspended e1 h1 q1 h2 => cases e0.symm.trans e1
    | resumeJustStarted e1 n1 h1 => cases e0.symm.trans e1
    | resumeThrowFresh e1 h1 => cases e0.symm.trans e1
    | resumeRunning e1 h1 => exact ih h1
    | resumeFinished e1 h1 => cases e0.symm.trans e1
  | resumeFinished e0 _ ih =>
    intro _ _ h
    cases h with
    | resumeFresh e1 h1 q1 h2 => cases e0.symm.trans e1
    | resumeSuspended e1 h1 q1 h2 => cases e0.symm.trans e1
    | resumeJustStarted e1 n1 h1 => cases e0.symm.trans e1
    | resumeThrowFresh e1 h1 => cases e0.symm.trans e1
    | resumeRunning e1 h1 => cases e0.symm.trans e1
    | resumeFinished e1 h1 => exact ih h1
  | segRet _ _ ih1 ih2 =>
    intro _ _ h
    cases h with
    | segRet h1 h2 => obtain ⟨a, b⟩ := ih1 h1; cases a; cases b; exact ih2 h2
    | segSuspOut n1 h1 => obtain ⟨a, b⟩ := ih1 h1; cases a
    | segSuspGen n1 h1 q1 h2 => obtain ⟨a, b⟩ := ih1 h1; cases a
  | segGen _ _ ih1 ih2 =>
    intro _ _ h
    cases h with
    | segGen h1 h2 => obtain ⟨a, b⟩ := ih1 h1; cases a; cases b; exact ih2 h2
    | segSuspOut n1 h1 => obtain ⟨a, b⟩ := ih1 h1; cases a
    | segSuspGen n1 h1 q1 h2 => obtain ⟨a, b⟩ := ih1 h1; cases a
  | segSuspOut n0 _ ih1 =>
    intro _ _ h
    cases h with
    | segRet h1 h2 => obtain ⟨a, b⟩ := ih1 h1; cases a
    | segGen h1 h2 => obtain ⟨a, b⟩ := ih1 h1; cases a
    | segSuspOut n1 h1 => obtain ⟨a, b⟩ := ih1 h1; cases a; cases b; exact ⟨rfl, rfl⟩
    | segSuspGen n1 h1 q1 h2 => cases n0.symm.trans n1
  | segSuspGen n0 _ q0 _ ih1 ih2 =>
    intro _ _ h
    cases h with
    | segRet h1 h2 => obtain ⟨a, b⟩ := ih1 h1; cases a
    | segGen h1 h2 => obtain ⟨a, b⟩ := ih1 h1; cases a
    | segSuspOut n1 h1 => cases n0.symm.trans n1
    | segSuspGen n1 h1 q1 h2 => cases n0.symm.trans n1; obtain ⟨a, b⟩ := ih1 h1; cases a; cases b; exact ih2 h2
  | done => intro _ _ h; cases h; exact ⟨rfl, rfl⟩
  | raise => intro _ _ h; cases h; exact ⟨rfl, rfl⟩
  | yield => intro _ _ h; cases h; exact ⟨rfl, rfl⟩
  | again _ _ ih => intro _ _ h; cases h with | again _ h1 => exact ih h1
  | update _ _ ih => intro _ _ h; cases h with | update _ h1 => exact ih h1
  | choose _ _ ih => intro _ _ h; cases h with | choose _ h1 => exact ih h1
  | rule _ ih => intro _ _ h; cases h with | rule h1 => exact ih h1
  | «at» _ ih => intro _ _ h; cases h with | «at» h1 => exact ih h1
  | loadIfAlive _ ih => intro _ _ h; cases h with | loadIfAlive h1 => exact ih h1
  | point _ ih => intro _ _ h; cases h with | point h1 => exact ih h1
  | alloc _ ih => intro _ _ h; cases h with | alloc h1 => exact ih h1
  | fresh _ ih => intro _ _ h; cases h with | fresh h1 => exact ih h1
  | ask _ ih => intro _ _ h; cases h with | ask h1 => exact ih h1
  | os _ ih => intro _ _ h; cases h with | os h1 => exact ih h1
  | handled _ ih => intro _ _ h; cases h with | handled h1 => exact ih h1
  | stack _ ih => intro _ _ h; cases h with | stack h1 => exact ih h1
  | thread _ ih => intro _ _ h; cases h with | thread h1 => exact ih h1
  | newGen _ ih => intro _ _ h; cases h with | newGen h1 => exact ih h1
theorem codeAny_all {M : Model} {A : Around} {c : Code} {s : Shared} {I : Type} {R : I → Result → Shared → Prop} (i : I) (h : ∀ i, codeAny M A c (R i) s) : codeAny M A c (fun r s' => ∀ i, R i r s') s := fun Γ p e b => by
  obtain ⟨r, s', hr, _⟩ := h i Γ p e b
  refine ⟨r, s', hr, fun j => ?_⟩
  obtain ⟨r2, s2, hr2, q⟩ := h j Γ p e b
  obtain ⟨a, b⟩ := runs_det hr hr2
  cases a; cases b
  exact q
/-- a freed place stays so -/
def Dead (a : Addr) (h : Heap) : Prop := a < h.objs.size ∧ h.get? a = none
theorem dead_push {a : Addr} {h : Heap} {o : Obj} (d : Dead a h) : Dead a (h.push o) := by
  obtain ⟨objs, l⟩ := h
  refine ⟨?_, ?_⟩
  · show a < (objs.push o).size
    rw [Array.size_push]
    exact Nat.lt_succ_of_lt d.1
  · have e : (objs.push o)[a]? = objs[a]? := by
      rw [Array.getElem?_push, if_neg (Nat.ne_of_lt d.1)]
    have q := d.2
    show Heap.get? ⟨objs.push o, l⟩ a = none
    unfold Heap.get? at q ⊢
    dsimp only at q ⊢
    rw [e]
    exact q
theorem dead_update {a b : Addr} {h : Heap} {f : Obj → Obj} (d : Dead a h) (hs : (h.get? b).isSome = true) : Dead a (h.update b f) := by
  have ne : b ≠ a := fun z => by rw [z, d.2] at hs; cases hs
  obtain ⟨objs, l⟩ := h
  refine ⟨?_, ?_⟩
  · show a < (objs.modify b f).size
    rw [Array.size_modify]
    exact d.1
  · have e : (objs.modify b f)[a]? = objs[a]? := by
      rw [Array.getElem?_modify, if_neg ne]
    have q := d.2
    show Heap.get? ⟨objs.modify b f, l⟩ a = none
    unfold Heap.get? at q ⊢
    dsimp only at q ⊢
    rw [e]
    exact q
theorem runs_dead {M : Model} {Γ : Ctx} {p : Pos} {t : Sem Fin} {fs : List Frame} {s s' : Shared} {e : End} {a : Addr} (h : Runs M Γ p t fs s e s') : Dead a s.heap → Dead a s'.heap := by
  induction h with
  | done => exact id
  | raise => exact id
  | yield => exact id
  | update hs _ ih => exact fun d => ih (dead_update d hs)
  | alloc _ ih => exact fun d => ih (dead_push d)
  | call _ _ ih1 ih2 => exact fun d => ih2 (ih1 d)
  | callSusp _ ih => exact ih
  | resumeFresh _ _ _ _ ih1 ih2 => exact fun d => ih2 (ih1 d)
  | resumeSuspended _ _ _ _ ih1 ih2 => exact fun d => ih2 (ih1 d)
  | resumeJustStarted _ _ _ ih => exact ih
  | resumeThrowFresh _ _ ih => exact ih
  | resumeRunning _ _ ih => exact ih
  | resumeFinished _ _ ih => exact ih
  | segRet _ _ ih1 ih2 => exact fun d => ih2 (ih1 d)
  | segGen _ _ ih1 ih2 => exact fun d => ih2 (ih1 d)
  | segSuspOut _ _ ih => exact ih
  | segSuspGen _ _ _ _ ih1 ih2 => exact fun d => ih2 (ih1 d)
  | again _ _ ih => exact ih
  | choose _ _ ih => exact ih
  | load _ _ ih => exact ih
  | genState _ _ ih => exact ih
  | rule _ ih => exact ih
  | «at» _ ih => exact ih
  | loadIfAlive _ ih => exact ih
  | point _ ih => exact ih
  | fresh _ ih => exact ih
  | ask _ ih => exact ih
  | os _ ih => exact ih
  | handled _ ih => exact ih
  | stack _ ih => exact ih
  | thread _ ih => exact ih
  | newGen _ ih => exact ih
theorem codeAny_dead {M : Model} {A : Around} {c : Code} {s : Shared} {R : Result → Shared → Prop} (h : codeAny M A c R s) : codeAny M A c (fun r s' => R r s' ∧ ∀ a, Dead a s.heap → Dead a s'.heap) s := fun Γ p e b => by
  obtain ⟨r, s', hr, q⟩ := h Γ p e b
  exact ⟨r, s', hr, q, fun a => runs_dead hr⟩
end J

/-! ### len(o) by the own __len__ of o's class -/
namespace J
open PySem PySem.Spec PyProof.Rows L2
structure LnC (K : PySem.W.Frag) (C f : Addr) : Prop where
  it : PySem.W.findIn K (.ref C) "__len__" = some (some (.ref f))
  fn : PySem.W.isFn K (.ref f) = true
def rLenO (C : Addr) (sp : Sp) (E : XK) : List V → Hp → VK → Prop := fun xs H Q => ∃ a dx fs, xs = [.ref a] ∧ H a = some (.ins C dx fs) ∧
  sp [.ref a] H (fun v H' => ∃ n : Nat, v = .int (n : Int) ∧ n ≤ 1000 ∧ Q (.int (n : Int)) H') E
theorem call_lenO {X : Cx} {CX : CXT} {k : Nat} {C f : Addr} {fd : FuncData} {ps : List Str} {sp : Sp} {E : XK} (hc : LnC X.K C f) (F : FnOk X.prog X.w X.K X.mg X.base CX k f fd ps sp) (hr : Room (k + 1) X.A) (hb : Binds X.K fd ps []) (hx : Passes CX X E) :
    CallR X (.builtin "len") (rLenO C sp E) := by
  intro pins s σ H xs us Q I r q
  obtain ⟨a, dx, fs, rfl, ha, hs⟩ := q
  obtain ⟨u, rfl, rx⟩ := vals1 r
  cases rx
  obtain ⟨mA, J, _⟩ := ins_get I.hok ha
  obtain ⟨od, J, _⟩ := J.look
  have hl := F.len _ _ _ _ hs
  refine Calls.call_function_entry kind_len plain_len entry_len (args_len1 _) ?_
  unfold PySem.Builtin.«len»
  refine wpAny_bind (m := oneArg "len" _) (wpAny_pure ?_)
  refine wpAny_bind (m := callSpecial? (.ref a) (Str.ofString "__len__")) (PySem.W.special_fn (args := []) I.kIn J hc.it (beq_iff_eq.mp hc.fn) ?_)
  refine wpAny_call (codeAny_mono (F.run X.A.in1 X.stack s H ⟨[.ref a], []⟩ [.ref a] [.ref a] _ E hr.in1 I.env0.in1 (by
    have := hb s [.ref a] I.kIn (by simpa using hl)
    simpa using this) (.cons rfl .nil) hs) fun r s' hq => ?_)
  cases r with
  | error e => exact hx pins σ H s e s' I hq
  | ok fl =>
    cases fl with
    | next => exact False.elim hq
    | brk => exact False.elim hq
    | cont => exact False.elim hq
    | ret u =>
      obtain ⟨v, H', I', rv, n, rfl, hn, q⟩ := I.after hq
      obtain ⟨t, rfl⟩ := rv
      refine wpAny_bind (wpAny_holding (wpAny_pure ?_))
      refine wpAny_bind (wpAny_letGo ?_)
      show wpAny _ _ (if ((n : Nat) : Int) < 0 then _ else _) _ _ _
      rw [if_neg (by omega)]
      show wpAny _ _ (if ((n : Nat) : Int) ≥ 2 ^ 63 then _ else _) _ _ _
      rw [if_neg (by omega)]
      exact wpAny_bind (wpAny_mkInt (wpAny_pure ⟨_, rfl, .int n, H', I'.tok _, ⟨_, rfl⟩, q⟩))
end J
/-! ### for x in o, list(o): the own __iter__ of o's class gives an iterator over a list -/
namespace J
open PySem PySem.Spec PyProof.Rows L2
structure ItrC (K : PySem.W.Frag) (C f : Addr) : Prop where
  it : PySem.W.findIn K (.ref C) "__iter__" = some (some (.ref f))
  fn : PySem.W.isFn K (.ref f) = true
def iOwn (K : PySem.W.Frag) (C : Addr) (sp : Sp) (E : XK) (ta : TE) : TI := fun σ H R => ta σ H fun x H1 => ∃ a dx fs l, x = .ref a ∧ H1 a = some (.ins C dx fs) ∧
  sp [.ref a] H1 (fun v H' => ∃ it, v = .ref it ∧ H1 it = none ∧ H' = upd H1 it (ItO l it 0)) E ∧ R (Itl K l) H1
theorem pi_own {X : Cx} {tg e : Expr} {ta : TE} {CX : CXT} {k : Nat} {C f : Addr} {fd : FuncData} {ps : List Str} {sp : Sp} {E : XK} (he : PE X e ta) (hc : ItrC X.K C f) (F : FnOk X.prog X.w X.K X.mg X.base CX k f fd ps sp) (hr : Room k X.A) (hb : Binds X.K fd ps []) (hx : Passes CX X E) :
    PI X tg e (iOwn X.K C sp E ta) := by
  refine ⟨fun pins s σ H R I h => ?_⟩
  refine thn (he.run pins s σ H _ I h) fun v s1 ⟨x, H1, I1, r1, a, dx, fs, l, ex, ha, hsp, q⟩ => ?_
  subst ex
  cases r1
  obtain ⟨mA, J, _⟩ := ins_get I1.hok ha
  obtain ⟨od, J, _⟩ := J.look
  obtain ⟨m, hF⟩ := I1.fr
  refine PySem.W.owit_iter hF I1.ok.mod.kin J hc.it hc.fn ?_
  have hl := F.len _ _ _ _ hsp
  refine wpAny_call (codeAny_mono (codeAny_dead (F.run X.A X.stack s1 H1 ⟨[.ref a], []⟩ [.ref a] [.ref a] _ E hr I1.env0 (by
    have := hb s1 [.ref a] I1.kIn (by simpa using hl)
    simpa using this) (.cons rfl .nil) hsp)) fun r s' hq => ?_)
  obtain ⟨hq, dead⟩ := hq
  cases r with
  | error e => exact hx pins σ H1 s1 e s' I1 hq
  | ok fl =>
    cases fl with
    | next => exact False.elim hq
    | brk => exact False.elim hq
    | cont => exact False.elim hq
    | ret u =>
      obtain ⟨v', H', os, bare, un, hok, rv', it', rfl, hn', eH'⟩ := id hq
      obtain ⟨v, H2, I2, rv, it, rfl, hn, eH⟩ := I1.after hq
      have e1 : it' = it := by
        cases rv
        cases rv'
        rfl
      subst e1
      subst eH
      subst eH'
      cases rv
      have hi : upd H1 it' (ItO l it' 0) it' = some (ItO l it' 0) := upd_same
      have eo := itO_get I2 hi
      have young : s1.heap.objs.size ≤ it' := Nat.le_of_not_lt fun lt => by
        cases e : s1.heap.get? it' with
        | some o =>
          have := un.free it' o e hn (by simp)
          rw [hi] at this; cases this
        | none =>
          have := (dead it' ⟨lt, e⟩).2
          rw [eo] at this; cases this
      have hT : s'.TypeIs (.ref it') "list_iterator" := ⟨_, eo, rfl⟩
      unfold PySem.W.OwitIt
      refine wpAny_specialOf (name := Str.ofString "__next__") hT slot_listiter_next.lookup ?_
      have hi' := hi
      unfold ItO at hi'
      have st : s'.heap.IsListIter it' l 0 := ⟨_, eo, rfl, rfl⟩
      refine ⟨it', [it'], _, _, H1, rfl, ?_, turn_list l it', st, fun b hb => ?_, q⟩
      · have := ItX.inv_drop I2 hi'
        rwa [ItX.dropH_upd hn] at this
      · have e : b = it' := by simpa using hb
        rw [e]
        have := ItX.inv_fp I2 hi (Nat.le_trans I1.sz young)
        rwa [ItX.dropH_upd hn] at this
end J

/-! ### class WeightOrder in the heap -/
namespace J
open PySem L2
/-- an order of weights at p: its weights at w, the weight of a variable, its ranks at r -/
structure WoAt (C : Addr) (H : Hp) (p dx w r : Addr) (vw : Int) (kvs rks : List (Key × V)) : Prop where
  ob : H p = some (.ins C dx [("_weights", .ref w), ("_variable_weight", .int vw), ("_ranks", .ref r)])
  hw : H w = some (.dK kvs)
  hr : H r = some (.dK rks)
theorem WoAt.same {C : Addr} {H H' : Hp} {p dx w r : Addr} {vw : Int} {kvs rks : List (Key × V)} (h : WoAt C H p dx w r vw kvs rks) (s : Same H H') : WoAt C H' p dx w r vw kvs rks :=
  ⟨s _ _ h.ob, s _ _ h.hw, s _ _ h.hr⟩
section
variable (a b c : V)
theorem wo_weights : ([(("_weights" : Str), a), (("_variable_weight" : Str), b), (("_ranks" : Str), c)] : List (Str × V)).lookup ("_weights" : Str) = some a := by
  rw [List.lookup_cons, show ((("_weights" : Str) == ("_weights" : Str)) = true) by decide +kernel]
theorem wo_vw : ([(("_weights" : Str), a), (("_variable_weight" : Str), b), (("_ranks" : Str), c)] : List (Str × V)).lookup ("_variable_weight" : Str) = some b := by
  rw [List.lookup_cons, show ((("_variable_weight" : Str) == ("_weights" : Str)) = false) by decide +kernel]
  show List.lookup _ _ = _
  rw [List.lookup_cons, show ((("_variable_weight" : Str) == ("_variable_weight" : Str)) = true) by decide +kernel]
theorem wo_ranks : ([(("_weights" : Str), a), (("_variable_weight" : Str), b), (("_ranks" : Str), c)] : List (Str × V)).lookup ("_ranks" : Str) = some c := by
  rw [List.lookup_cons, show ((("_ranks" : Str) == ("_weights" : Str)) = false) by decide +kernel]
  show List.lookup _ _ = _
  rw [List.lookup_cons, show ((("_ranks" : Str) == ("_variable_weight" : Str)) = false) by decide +kernel]
  show List.lookup _ _ = _
  rw [List.lookup_cons, show ((("_ranks" : Str) == ("_ranks" : Str)) = true) by decide +kernel]
theorem wo_no {m : Str} (h1 : (m == ("_weights" : Str)) = false) (h2 : (m == ("_variable_weight" : Str)) = false) (h3 : (m == ("_ranks" : Str)) = false) : ([(("_weights" : Str), a), (("_variable_weight" : Str), b), (("_ranks" : Str), c)] : List (Str × V)).lookup m = none := by
  rw [List.lookup_cons, h1]
  show List.lookup _ _ = _
  rw [List.lookup_cons, h2]
  show List.lookup _ _ = _
  rw [List.lookup_cons, h3]; rfl
end
/-- the weight of a row of symbols -/
def wsum (g : Str → Int) (vw : Int) : List V → Int
  | [] => 0
  | .str f :: r => g f + wsum g vw r
  | _ :: r => vw + wsum g vw r
theorem wsum_app (g : Str → Int) (vw : Int) : ∀ (a b : List V), wsum g vw (a ++ b) = wsum g vw a + wsum g vw b
  | [], b => by show wsum g vw b = 0 + wsum g vw b; omega
  | x :: a, b => by
    have ih := wsum_app g vw a b
    cases x <;> (show _ + wsum g vw (a ++ b) = (_ + wsum g vw a) + wsum g vw b; rw [ih]; omega)
/-- a term's symbols are ints and texts -/
theorem syms_two (t : Tm) : ∀ x ∈ syms t, (∃ n, x = V.int n) ∨ ∃ f, x = V.str f :=
  Tm.ind (P := fun t => ∀ x ∈ syms t, (∃ n, x = V.int n) ∨ ∃ f, x = V.str f) (fun n x h => .inl ⟨n, List.mem_singleton.mp h⟩) (fun f ts ih x h => by
    rcases List.mem_cons.mp (show x ∈ V.str f :: symss ts from h) with z | z
    · exact .inr ⟨f, z⟩
    · have go : ∀ (us : List Tm), (∀ u ∈ us, ∀ x ∈ syms u, (∃ n, x = V.int n) ∨ ∃ f, x = V.str f) → x ∈ symss us → (∃ n, x = V.int n) ∨ ∃ f, x = V.str f := by
        intro us
        induction us with
        | nil => exact fun _ h => nomatch h
        | cons u us ihu =>
          intro hh hx
          rcases List.mem_append.mp (show x ∈ syms u ++ symss us from hx) with z | z
          · exact hh u (List.mem_cons_self ..) x z
          · exact ihu (fun w hw => hh w (List.mem_cons_of_mem _ hw)) z
      exact go ts ih z) t
/-! ### weights by name -/
def updS (g : Str → Int) (f : Str) (x : Int) : Str → Int := fun h => if h = f then x else g h
def kvW (g : Str → Int) (es : List Opn) : List (Key × V) := es.map fun e => (.inr e.nm, .int (g e.nm))
theorem kvW_len (g : Str → Int) (es : List Opn) : (kvW g es).length = es.length := List.length_map ..
theorem kvW_some {g : Str → Int} {es : List Opn} {e : Opn} (nd : (es.map (·.nm)).Nodup) (m : e ∈ es) : valV (kvW g es) (.inr e.nm) = some (.int (g e.nm)) := kv_some (g := fun e => V.int (g e.nm)) nd m
theorem kvW_none {g : Str → Int} {es : List Opn} {f : Str} (h : f ∉ es.map (·.nm)) : valV (kvW g es) (.inr f) = none := kv_none (g := fun e => V.int (g e.nm)) h
theorem putW_new {g : Str → Int} {es : List Opn} {e : Opn} {x : Int} (nin : e.nm ∉ es.map (·.nm)) : putK (kvW g es) (.inr e.nm) (.int x) = kvW (updS g e.nm x) (es ++ [e]) := by
  rw [putK_new _ (kvW_none nin)]
  unfold kvW
  rw [List.map_append]
  congr 1
  · refine List.map_congr_left fun a ha => ?_
    have : a.nm ≠ e.nm := fun z => nin (List.mem_map.mpr ⟨a, ha, z⟩)
    unfold updS
    rw [if_neg this]
  · show [((.inr e.nm : Key), V.int x)] = [(.inr e.nm, .int (updS g e.nm x e.nm))]
    unfold updS
    rw [if_pos rfl]
theorem putW_old {g : Str → Int} {es : List Opn} {f : Str} {x : Int} (m : f ∈ es.map (·.nm)) : putK (kvW g es) (.inr f) (.int x) = kvW (updS g f x) es := by
  have h : ((kvW g es).any fun kv => decide (kv.1 = (.inr f : Key))) = true := by
    obtain ⟨e, he, ef⟩ := List.mem_map.mp m
    exact List.any_eq_true.mpr ⟨(.inr e.nm, .int (g e.nm)), List.mem_map.mpr ⟨e, he, rfl⟩, decide_eq_true (congrArg Sum.inr ef)⟩
  unfold putK
  rw [if_pos h]
  unfold kvW
  rw [List.map_map]
  refine List.map_congr_left fun a _ => ?_
  show (if (Sum.inr a.nm : Key) = .inr f then ((Sum.inr a.nm : Key), V.int x) else (.inr a.nm, .int (g a.nm))) = (.inr a.nm, .int (updS g f x a.nm))
  unfold updS
  by_cases z : a.nm = f
  · rw [if_pos (congrArg Sum.inr z), if_pos z]
  · rw [if_neg (fun w => z (Sum.inr.inj w)), if_neg z]
/-- weights that an order accepts -/
def WOk (es : List Opn) (vw : Int) (g : Str → Int) : Prop := ∀ (k : Nat) (e : Opn), es[k]? = some e → 0 ≤ g e.nm ∧ g e.nm ≤ 1000 ∧ (e.ar = 0 → vw ≤ g e.nm) ∧ (e.ar = 1 → k + 1 < es.length → 1 ≤ g e.nm)
end J

/-! ### list(o): the own __iter__ gives an iterator over a list, the own __len__ tells a number -/
namespace J
open PySem PySem.Spec PyProof.Rows L2
section
variable {X : Cx} {pins : List (Addr × Obj)} {σ : L2.St}
theorem ext_list {H : Hp} {l S it : Addr} {xs : List V} {A1 : Around} {Rs : Result → Shared → Prop} (hA : A1.in1.handled = none) (hl : H l = some (.lst xs)) (hz : xs.length ≤ sizeLine) (hS : H S = none) (hn : H it = none) (si : S ≠ it)
    (hdone : ∀ s, Inv X pins σ (upd H S (.lst xs)) s → Rs (.ok (.ret .none)) s) :
    ∀ (k i : Nat) (s : Shared), xs.length - i = k → i ≤ xs.length → Inv X pins σ (upd H S (.lst (xs.take i))) s → FpOk X pins H it → s.heap.IsListIter it l i →
      codeAny (model X.prog X.w) A1 (.builtin "list.extend.loop" ⟨[.ref S, .ref it, .none], []⟩) Rs s := by
  have hl2 : ∀ ys, upd H S (.lst ys) l = some (.lst xs) := fun ys => by rw [upd_ne (ne_of_none hl hS)]; exact hl
  have hn2 : ∀ ys, upd H S (.lst ys) it = none := fun ys => by rw [upd_ne si.symm]; exact hn
  intro k
  induction k with
  | zero =>
    intro i s hk hi I hf st
    have hin : i = xs.length := by omega
    subst hin
    refine codeAny_builtin PySem.F.entry_extend_loop ?_
    rw [Around.under_plainId PySem.F.plain_extend_loop _]
    show wpAny _ A1.in1 (pyNext (.ref it) >>= _) _ _ s
    obtain ⟨its, rv, p, _⟩ := I.list (SqL.of (hl2 _))
    have hlen := rv.length
    obtain ⟨f0, f1, f2, f3, f4, f5⟩ := hf
    refine wpAny_bind (wpAny_pyNext_list_end hA st p.isList (by simp; omega) fun h' eb => ?_)
    have I1 : Inv X pins σ (upd H S (.lst (xs.take xs.length))) { s with heap := h' } := I.turned (t' := s.toks) (fun b ob hb e => eb b ob hb e) (hn2 _) f1 f3 f4 f5
    rw [List.take_length] at I1
    exact wpAny_pure (hdone _ I1)
  | succ k ih =>
    intro i s hk hi I hf st
    have lt : i < xs.length := by omega
    have gx := List.getElem?_eq_getElem lt
    refine codeAny_builtin PySem.F.entry_extend_loop ?_
    rw [Around.under_plainId PySem.F.plain_extend_loop _]
    show wpAny _ A1.in1 (pyNext (.ref it) >>= _) _ _ s
    obtain ⟨its, rv, p, _⟩ := I.list (SqL.of (hl2 _))
    obtain ⟨u, hu, ru⟩ := rv.get gx
    obtain ⟨f0, f1, f2, f3, f4, f5⟩ := id hf
    refine wpAny_bind (wpAny_pyNext_list_item st p.isList (x := u) (by simpa using hu) fun h' st' sb => ?_)
    have I1 : Inv X pins σ (upd H S (.lst (xs.take i))) { s with heap := h' } := I.turned (t' := s.toks) (fun b ob hb e => (sb.2 b hb).trans e) (hn2 _) f1 f3 f4 f5
    obtain ⟨z, it2, n2, r2, hl3, e2⟩ := I1.lstM upd_same
    show wpAny _ A1.in1 (updateSeq S (·.push u) >>= _) _ _ _
    have ltk : (xs.take i).length < sizeLine := by rw [List.length_take]; omega
    refine wpAny_bind (wpAny_updateSeq e2 rfl (wpAny_pure ⟨plainId_quiet PySem.F.plain_extend_loop _, ?_⟩) (by rw [List.size_toArray]; omega) (by show (it2.toArray.push u).size ≤ sizeLine + 1; rw [Array.size_push, List.size_toArray]; omega))
    have I2 := I1.lset (f := (·.push u)) (its' := it2 ++ [u]) (ys := xs.take i ++ [xs[i]]) (t' := s.toks) upd_same e2 (by simp) (r2.append (.cons ru .nil)) (by rw [List.length_append, List.length_singleton]; omega)
    rw [upd_upd, show xs.take i ++ [xs[i]] = xs.take (i + 1) by rw [List.take_succ, gx]; rfl] at I2
    exact ih (i + 1) _ (by omega) (by omega) I2 hf (st'.at fun o e => (Heap.get?_update_other _ _ si).trans e)
variable {C fi fl a : Addr} {fdI fdL : FuncData} {psI psL : List Str} {spI spL : Sp}
theorem len_hintO {kL : Nat} {A1 : Around} {H : Hp} {s : Shared} {dx : Addr} {fs : List (Str × V)} {Q : Bool → Shared → Prop} {E : Value → Shared → Prop} {P : Hp → Prop} (sb : Sub X (kL + 1) A1) (hc : LnC X.K C fl) (F : FnOk X.prog X.w X.K X.mg X.base CX0 kL fl fdL psL spL)
    (hb : Binds X.K fdL psL []) (I : Inv X pins σ H s) (ha : H a = some (.ins C dx fs)) (hs : spL [.ref a] H (fun v H' => ∃ n : Nat, v = .int (n : Int) ∧ n ≤ 1000 ∧ P H') (fun _ _ _ => False))
    (h : ∀ b H' s', Inv X pins σ H' s' → P H' → Q b s') : wpAny (model X.prog X.w) A1 (Builtin.List.listLengthHint (.ref a)) Q E s := by
  obtain ⟨mA, J, _⟩ := ins_get I.hok ha
  obtain ⟨od, J, _⟩ := J.look
  have hl := F.len _ _ _ _ hs
  have e0 : Env0 X.prog X.w X.K X.mg X.base A1.in1 X.stack s H := by
    have e := I.env0
    exact ⟨by rw [sb.in1.fr]; exact e.frames, e.mod, e.bs, e.bsz, e.funs, e.frf, e.hok, e.bare⟩
  unfold Builtin.List.listLengthHint
  refine wpAny_bind (wpAny_bind (J.type.here ((PySem.W.looks_findIn I.kIn hc.it).here ?_)))
  refine PySem.W.KFB.if_not rfl ?_
  refine wpAny_ite_split (fun _ => ?_) (fun z => absurd rfl z)
  refine wpAny_bind (wpAny_rule ?_)
  refine wpAny_bind (wpAny_attempt ?_)
  refine Calls.call_function_entry kind_len plain_len entry_len (args_len1 _) ?_
  unfold PySem.Builtin.«len»
  refine wpAny_bind (m := oneArg "len" _) (wpAny_pure ?_)
  refine wpAny_bind (m := callSpecial? (.ref a) (Str.ofString "__len__")) (PySem.W.special_fn (args := []) I.kIn J hc.it (beq_iff_eq.mp hc.fn) ?_)
  refine wpAny_call (codeAny_mono (F.run A1.in1 X.stack s H ⟨[.ref a], []⟩ [.ref a] [.ref a] _ _ sb.in1.room e0 (by
    have := hb s [.ref a] I.kIn (by simpa using hl)
    simpa using this) (.cons rfl .nil) hs) fun r s' hq => ?_)
  cases r with
  | error e => exact hq.elim
  | ok f =>
    cases f with
    | next => exact False.elim hq
    | brk => exact False.elim hq
    | cont => exact False.elim hq
    | ret u =>
      obtain ⟨v, H', I', rv, n, rfl, hn, q⟩ := I.after hq
      obtain ⟨t, rfl⟩ := rv
      refine wpAny_bind (wpAny_holding (wpAny_pure ?_))
      refine wpAny_bind (wpAny_letGo ?_)
      show wpAny _ _ (if ((n : Nat) : Int) < 0 then _ else _) _ _ _
      rw [if_neg (by omega)]
      show wpAny _ _ (if ((n : Nat) : Int) ≥ 2 ^ 63 then _ else _) _ _ _
      rw [if_neg (by omega)]
      refine wpAny_bind (wpAny_mkInt (wpAny_pure ?_))
      refine ⟨_, rfl, ?_⟩
      have htl : Builtin.List.listTooLong (((n : Nat) : Int).toNat) = false := by simp [Builtin.List.listTooLong, sizeLine]; omega
      refine wpAny_bind (m := asInt? _) (wpAny_pure ?_)
      exact wpAny_ite_split (fun hab => absurd hab (by rw [htl]; decide)) (fun _ => wpAny_pure (h _ _ _ (I'.tok _) q))
theorem ext_own {kI kL : Nat} {H : Hp} {l S dx : Addr} {fs : List (Str × V)} {zs : List V} {A1 : Around} {Rs : Result → Shared → Prop} {s : Shared} (hA : A1.in1.handled = none) (sb : Sub X (kI + kL + 1) A1.in1) (hi : ItrC X.K C fi) (hc : LnC X.K C fl)
    (FI : FnOk X.prog X.w X.K X.mg X.base CX0 kI fi fdI psI spI) (FL : FnOk X.prog X.w X.K X.mg X.base CX0 kL fl fdL psL spL) (bI : Binds X.K fdI psI []) (bL : Binds X.K fdL psL [])
    (I : Inv X pins σ (upd H S (.lst [])) s) (ha : H a = some (.ins C dx fs)) (hl : H l = some (.lst zs)) (hz : zs.length ≤ 1000) (hS : H S = none)
    (hspI : spI [.ref a] (upd H S (.lst [])) (fun v H' => ∃ it, v = .ref it ∧ upd H S (.lst []) it = none ∧ H' = upd (upd H S (.lst [])) it (ItO l it 0)) (fun _ _ _ => False))
    (hspL : ∀ it, upd H S (.lst []) it = none → spL [.ref a] (upd (upd H S (.lst [])) it (ItO l it 0)) (fun v H' => ∃ n : Nat, v = .int (n : Int) ∧ n ≤ 1000 ∧ H' = upd (upd H S (.lst [])) it (ItO l it 0)) (fun _ _ _ => False))
    (hdone : ∀ s, Inv X pins σ (upd H S (.lst zs)) s → Rs (.ok (.ret .none)) s) :
    wpAny (model X.prog X.w) A1.in1 (Builtin.List.listExtendWith (.ref S) (.ref a) .none)
      (fun fin s' => match fin with | .done f => Rs (.ok f) s' | .again c' => c'.quiet = true ∧ codeAny (model X.prog X.w) A1 c' Rs s') (fun e s' => Rs (.error e) s') s := by
  have hne : S ≠ a := (ne_of_none ha hS).symm
  have ha2 : upd H S (.lst []) a = some (.ins C dx fs) := by rw [upd_ne (ne_of_none ha hS)]; exact ha
  obtain ⟨mA, J, _⟩ := ins_get I.hok ha2
  obtain ⟨od, J, _⟩ := J.look
  obtain ⟨m0, hF⟩ := I.fr
  unfold Builtin.List.listExtendWith
  refine wpAny_bind (J.type.here ?_)
  have h1 : Builtin.List.listSameRef (.ref S) (.ref a) = false := by simp [Builtin.List.listSameRef, hne]
  have h2 : (Value.ref C == Value.type "list") = false := rfl
  have h3 : (Value.ref C == Value.type "tuple") = false := rfl
  simp only [h1, h2, h3, Bool.or_false, Bool.false_eq_true, if_false]
  refine wpAny_bind (PySem.W.owit_iter hF I.ok.mod.kin J hi.it hi.fn ?_)
  have e0 : Env0 X.prog X.w X.K X.mg X.base A1.in1 X.stack s (upd H S (.lst [])) := by
    have e := I.env0
    exact ⟨by rw [sb.fr]; exact e.frames, e.mod, e.bs, e.bsz, e.funs, e.frf, e.hok, e.bare⟩
  have hlI := FI.len _ _ _ _ hspI
  refine wpAny_call (codeAny_mono (codeAny_dead (FI.run A1.in1 X.stack _ _ ⟨[.ref a], []⟩ [.ref a] [.ref a] _ _ (sb.mono (by omega)).room e0 (by
    have := bI _ [.ref a] I.kIn (by simpa using hlI)
    simpa using this) (.cons rfl .nil) hspI)) fun r s' hq' => ?_)
  obtain ⟨hq', dead⟩ := hq'
  cases r with
  | error e => exact hq'.elim
  | ok f =>
    cases f with
    | next => exact False.elim hq'
    | brk => exact False.elim hq'
    | cont => exact False.elim hq'
    | ret u =>
      obtain ⟨v', H', os, bare, un, hok, rv', it', rfl, hn', eH'⟩ := id hq'
      obtain ⟨v, H3, I3, rv, it, rfl, hn, eH⟩ := I.after hq'
      have e1 : it' = it := by
        cases rv
        cases rv'
        rfl
      subst e1
      subst eH
      subst eH'
      cases rv
      have hi3 : upd (upd H S (.lst [])) it' (ItO l it' 0) it' = some (ItO l it' 0) := upd_same
      have eo := itO_get I3 hi3
      have young : s.heap.objs.size ≤ it' := Nat.le_of_not_lt fun lt => by
        cases e : s.heap.get? it' with
        | some o =>
          have := un.free it' o e hn (by simp)
          rw [hi3] at this; cases this
        | none =>
          have := (dead it' ⟨lt, e⟩).2
          rw [eo] at this; cases this
      have hT : s'.TypeIs (.ref it') "list_iterator" := ⟨_, eo, rfl⟩
      have si : S ≠ it' := fun z => by rw [← z, upd_same] at hn; cases hn
      have hni : H it' = none := by rw [upd_ne si.symm] at hn; exact hn
      have ha3 : upd (upd H S (.lst [])) it' (ItO l it' 0) a = some (.ins C dx fs) := by rw [upd_ne (ne_of_none ha2 hn)]; exact ha2
      unfold PySem.W.OwitIt
      refine wpAny_specialOf (name := Str.ofString "__next__") hT slot_listiter_next.lookup ?_
      refine wpAny_bind (wpAny_holding (len_hintO (P := fun H' => H' = upd (upd H S (.lst [])) it' (ItO l it' 0)) (sb.mono (by omega)) hc FL bL I3 ha3 (hspL it' hn) fun b H4 s4 I4 e4 => ?_))
      subst e4
      have eo4 := itO_get I4 hi3
      have hi4 := hi3
      unfold ItO at hi4
      have fp : FpOk X pins H it' := by
        have q := ItX.inv_fp I4 hi4 (Nat.le_trans I.sz young)
        rw [ItX.dropH_upd hn] at q
        exact ⟨hni, q.2⟩
      have I5 : Inv X pins σ (upd H S (.lst [])) s4 := by
        have q := ItX.inv_drop I4 hi4
        rwa [ItX.dropH_upd hn] at q
      have st : s4.heap.IsListIter it' l 0 := ⟨_, eo4, rfl, rfl⟩
      have hzz : zs.length ≤ sizeLine := by rw [sizeLine_eq]; omega
      refine wpAny_ite_split (fun _ => ?_) (fun _ => wpAny_pure ⟨plainId_quiet PySem.F.plain_extend_loop _, ext_list hA hl hzz hS hni si hdone _ 0 s4 rfl (Nat.zero_le _) I5 fp st⟩)
      obtain ⟨z, its, k, r3, hl3, e3⟩ := I5.lstM upd_same
      cases r3
      refine wpAny_bind (wpAny_rule ?_)
      refine wpAny_bind ?_
      show wpAny _ _ (updateSeq S (·.push .none) >>= fun _ => updateSeq S (·.pop)) _ _ _
      refine wpAny_bind (wpAny_updateSeq e3 rfl ?_)
      have I2 := I5.lset (f := (·.push Value.none)) (its' := [Value.none]) (ys := [.non]) (t' := s4.toks) upd_same e3 (by simp) (.cons rfl .nil) (by rw [List.length_singleton, sizeLine_eq]; decide)
      obtain ⟨z4, its4, k4, r4, hl4, e4⟩ := I2.lstM upd_same
      obtain ⟨u4, rfl, ru4⟩ := r4.one
      refine wpAny_updateSeq e4 rfl ?_ (by show 1 ≤ sizeLine; rw [sizeLine_eq]; decide) (by show 0 ≤ sizeLine + 1; exact Nat.zero_le _)
      have I6 := I2.lset (f := (·.pop)) (its := [u4]) (its' := []) (ys := []) (t' := s4.toks) upd_same e4 (by rfl) .nil (Nat.zero_le _)
      rw [upd_upd, upd_upd] at I6
      refine wpAny_pure ⟨plainId_quiet PySem.F.plain_extend_loop _, ext_list hA hl hzz hS hni si hdone _ 0 _ rfl (Nat.zero_le _) I6 fp (st.at fun o e => (Heap.get?_update_other _ _ si).trans ((Heap.get?_update_other _ _ si).trans e))⟩
def rListO (C : Addr) (spI spL : Sp) : List V → Hp → VK → Prop := fun xs H Q => ∃ a dx fs l zs, xs = [.ref a] ∧ H a = some (.ins C dx fs) ∧ H l = some (.lst zs) ∧ zs.length ≤ 1000 ∧ ∀ S, H S = none →
  spI [.ref a] (upd H S (.lst [])) (fun v H' => ∃ it, v = .ref it ∧ upd H S (.lst []) it = none ∧ H' = upd (upd H S (.lst [])) it (ItO l it 0)) (fun _ _ _ => False) ∧
  (∀ it, upd H S (.lst []) it = none → spL [.ref a] (upd (upd H S (.lst [])) it (ItO l it 0)) (fun v H' => ∃ n : Nat, v = .int (n : Int) ∧ n ≤ 1000 ∧ H' = upd (upd H S (.lst [])) it (ItO l it 0)) (fun _ _ _ => False)) ∧
  Q (.ref S) (upd H S (.lst zs))
theorem call_listO {kI kL : Nat} (hi : ItrC X.K C fi) (hc : LnC X.K C fl) (FI : FnOk X.prog X.w X.K X.mg X.base CX0 kI fi fdI psI spI) (FL : FnOk X.prog X.w X.K X.mg X.base CX0 kL fl fdL psL spL) (bI : Binds X.K fdI psI []) (bL : Binds X.K fdL psL [])
    (hr : Room (kI + kL + 3) X.A) (hcalm : X.calm = true := by rfl) : CallR X (.type "list") (rListO C spI spL) := by
  intro pins s σ H xs us Q I rv h
  obtain ⟨a, dx, fs, l, zs, rfl, ha, hl, hz, hq⟩ := h
  obtain ⟨u, rfl, ru⟩ := rv.one
  cases ru
  have sb : Sub X (kI + kL + 1) X.A.in1.in1 := (Sub.in1 (Sub.in1 (⟨hr, rfl⟩ : Sub X (kI + kL + 3) X.A)))
  refine callType_codes (Q₁ := fun obj s₁ => obj = .ref s.heap.objs.size ∧ s₁ = { s with heap := s.heap.push { cls := .type "list", data := .seq #[] } }) PySem.F.called_list (PySem.F.typeCall_list_1 _) PySem.F.entry_list_init
    (code_list_new _ ⟨rfl, rfl⟩) fun obj s₁ h₁ => ?_
  obtain ⟨rfl, rfl⟩ := h₁
  have hS : (s.heap.push { cls := .type "list", data := .seq #[] }).get? s.heap.objs.size = some { cls := .type "list", data := .seq #[] } := Heap.get?_push_size _ rfl
  refine ⟨⟨_, hS, rfl⟩, PySem.F.args_list_init_2 _ _, ?_⟩
  have fr : H s.heap.objs.size = none := I.hok.fresh (Nat.le_refl _)
  obtain ⟨hspI, hspL, hQ⟩ := hq _ fr
  have I1 : Inv X pins σ (upd H s.heap.objs.size (.lst [])) { s with heap := s.heap.push { cls := .type "list", data := .seq #[] } } := I.lnew (its := []) (t' := s.toks) .nil (Nat.zero_le _)
  show wpAny _ _ (do let old ← Builtin.List.listItems (.ref s.heap.objs.size); Builtin.List.listUpdate (.ref s.heap.objs.size) (fun _ => #[]); letGo old.toList.reverse; Builtin.List.listExtendWith (.ref s.heap.objs.size) (.ref a) .none) _ _ _
  refine wpAny_bind ?_
  unfold Builtin.List.listItems
  refine wpAny_bind (wpAny_seqItems hS rfl (wpAny_pure ?_))
  show wpAny _ _ (updateSeq s.heap.objs.size (fun _ => #[]) >>= fun _ => letGo (#[] : Array Value).toList.reverse >>= fun _ => Builtin.List.listExtendWith (.ref s.heap.objs.size) (.ref a) .none) _ _ _
  refine wpAny_bind (wpAny_updateSeq hS rfl ?_)
  have I2 := I1.lset (f := fun _ => #[]) (its := []) (its' := []) (ys := []) (t' := s.toks) upd_same hS rfl .nil (Nat.zero_le _)
  rw [upd_upd] at I2
  refine wpAny_bind (wpAny_letGo ?_)
  exact ext_own (A1 := X.A.in1) (Rs := wants (fun r s₂ => r = .none ∧ EP X pins σ Q (.ref s.heap.objs.size) s₂) X.xe) (I.ok.hd hcalm) sb hi hc FI FL bI bL I2 ha hl hz fr hspI hspL fun s' I' => ⟨rfl, .ref s.heap.objs.size, _, I', rfl, hQ⟩
end
end J
/-! ### C(e, ..) in a try's body, the __init__ of C may raise -/
namespace J
open PySem L2 PyProof.Rows
section
variable {X : Cx} {CX : CXT} {k : Nat} {f C : Addr} {fd : FuncData} {ps : List Str} {sp : Sp} {E : L2.St → XK} {x : Str} {p pos : Pos} {e : Expr} {es : List Expr} {t : TA}
theorem run_makeS {pins : List (Addr × Obj)} {σ : L2.St} {H : Hp} {s : Shared} {Q : VK} {us : List Value} {vs : List V} (M : Mk X.K C f) (F : FnOk X.prog X.w X.K X.mg X.base CX k f fd ps sp) (hr : Room (k + 1) X.A) (hb : Binds X.K fd ps [])
    (hx : PassesAt CX X σ (E σ)) (I : Inv X pins σ H s) (r : Vals vs us)
    (h : ∀ x dx, H x = none → H dx = none → dx ≠ x → sp (.ref x :: vs) (upd (upd H dx (.own x)) x (.ins C dx [])) (fun v H2 => v = .non ∧ Q (.ref x) H2) (E σ)) :
    wpAny (model X.prog X.w) X.A (call (.ref C) us) (EP X pins σ Q) X.xe s := by
  have hq := h (s.heap.objs.size + 1) s.heap.objs.size (I.hok.fresh (Nat.le_succ _)) (I.hok.fresh (Nat.le_refl _)) (Nat.ne_of_lt (Nat.lt_succ_self _))
  have I2 := Inv.made (C := C) I
  have r2 : Vals (V.ref (s.heap.objs.size + 1) :: vs) (Value.ref (s.heap.objs.size + 1) :: us) := .cons rfl r
  have hl : ((Value.ref (s.heap.objs.size + 1) :: us) ++ []).length = ps.length := by
    have e := r2.length
    rw [F.len _ _ _ _ hq] at e
    rw [List.append_nil]
    exact e.symm
  have hb2 := hb _ (Value.ref (s.heap.objs.size + 1) :: us) I2.kIn hl
  rw [List.append_nil] at hb2
  refine wpAny_call (make_map (f := f) I.kIn M.makes M.init (beq_iff_eq.mp M.fn) (codeAny_mono (F.run _ X.stack _ _ ⟨Value.ref (s.heap.objs.size + 1) :: us, []⟩ (Value.ref (s.heap.objs.size + 1) :: us) _ _ (E σ) (hr.make C us [])
    (I2.env0.make C us []) hb2 r2 hq) fun r s' hq' => ?_))
  cases r with
  | error e => exact hx pins _ _ e s' I2 hq'
  | ok fl =>
    cases fl with
    | ret u =>
      obtain ⟨v, H', I3, rv, ev, q3⟩ := I2.after hq'
      subst ev
      exact ⟨rv, ⟨V.ref (s.heap.objs.size + 1), H', I3, rfl, q3⟩⟩
    | next => exact False.elim hq'
    | brk => exact False.elim hq'
    | cont => exact False.elim hq'
def tMakeS (C : Addr) (sp : Sp) (E : L2.St → XK) (t : TA) : TE := fun σ H Q => t σ H fun vs H1 => ∀ x dx, H1 x = none → H1 dx = none → dx ≠ x → sp (.ref x :: vs) (upd (upd H1 dx (.own x)) x (.ins C dx [])) (fun v H2 => v = .non ∧ Q (.ref x) H2) (E σ)
theorem pe_makeS (M : Mk X.K C f) (F : FnOk X.prog X.w X.K X.mg X.base CX k f fd ps sp) (hr : Room (k + 1) X.A) (hg : Gl X x) (hm : X.mg x = some (.ref C)) (hb : Binds X.K fd ps []) (hx : ∀ σ, PassesAt CX X σ (E σ))
    (ha : PA X (e :: es) t) (hdb : (x == ("__debug__" : Str)) = false := by decide) (he : starEach (e :: es) X.env = (false, eval e X.env) :: starEach es X.env := by rfl) (hpl : (backTo pos (starEach es X.env)).any (·.1) = false := by rfl) :
    PE X (.Call (.Name x p) (e :: es) [] pos) (tMakeS C sp E t) := by
  refine ⟨fun pins s σ H Q I h => ?_⟩
  refine wpAny_Call_Name_kw (ld_glob I hg hm ?_ hdb)
  refine PySem.W.callWith_K (h₀ := X.base) I.ok.mod.kin M.kp (thn (ha.run pos pins s σ H _ I h) fun us s1 ⟨vs, H1, I1, r, q⟩ => ⟨I1.kIn, ?_⟩) he hpl
  exact run_makeS M F hr hb (hx σ) I1 r q
end
end J
/-! ### {k: v for x in a list} -/
namespace J
open PySem L2 PyProof.Rows
theorem dc_list {K : PySem.W.Frag} {a : Addr} {xs : List V} {g : TG} {tt : TT} {tk tv : TE} {vs : List Nat} {σ : L2.St} {H1 : Hp} {D : Addr} {Qd : Hp → Prop} (Pv : Nat → Hp → Prop) (h0 : Pv 0 (upd H1 D (.dK []))) (hl : ∀ i H, i ≤ xs.length → Pv i H → SqL K H a xs)
    (hs : ∀ i x H, xs[i]? = some x → Pv i H → g x (wipe σ vs) H fun σ2 H2 => wipe σ2 vs = wipe σ vs ∧ tt σ2 H2 fun b H3 =>
      if b = true then tk σ2 H3 fun y H4 => tv σ2 H4 fun z H5 => ∃ kvs k, y = kV k ∧ H5 D = some (.dK kvs) ∧ kvs.length < sizeLine ∧ Pv (i + 1) (upd H5 D (.dK (putK kvs k z))) else Pv (i + 1) H3) (hd : ∀ H, Pv xs.length H → Qd H) :
    ∃ W : Nat → Nat → Hp → Prop, (∃ m, W 0 m (upd H1 D (.dK []))) ∧ ∀ i m H, W i m H →
      ((Itl K a).stop i H ∧ Qd H) ∨ ((Itl K a).go i H ∧ ∃ Nx : Hp → Prop, (∀ H', Nx H' → ∃ m', m' < m ∧ W (i + 1) m' H') ∧ ∀ x H', (Itl K a).yld i H x H' → g x (wipe σ vs) H' fun σ2 H2 => wipe σ2 vs = wipe σ vs ∧ tt σ2 H2 fun b H3 =>
        if b = true then tk σ2 H3 fun y H4 => tv σ2 H4 fun z H5 => ∃ kvs k, y = kV k ∧ H5 D = some (.dK kvs) ∧ kvs.length < sizeLine ∧ Nx (upd H5 D (.dK (putK kvs k z))) else Nx H3) := by
  refine ⟨fun i m H => m = xs.length - i ∧ i ≤ xs.length ∧ Pv i H, ⟨xs.length, by simp, Nat.zero_le _, h0⟩, ?_⟩
  rintro i m H ⟨rfl, hi, p⟩
  have q := hl i H hi p
  by_cases hlt : i < xs.length
  · refine .inr ⟨⟨xs, xs[i], q, by simp [hlt]⟩, Pv (i + 1), fun H' p' => ⟨xs.length - (i + 1), by omega, rfl, hlt, p'⟩, fun x H' y => ?_⟩
    obtain ⟨e, y⟩ := y
    subst e
    exact hs i x _ (y xs q) p
  · exact .inl ⟨⟨xs, q, by omega⟩, hd _ (by rwa [show xs.length = i by omega])⟩
end J
/-! ### the value of an expression, locked from then on -/
namespace J
open PySem L2
def tLockV (t : TE) : TE := fun σ H Q => t σ H fun x H1 => ∃ d u, x = .ref d ∧ H1 d = some u ∧ Mut (some u) ∧ ∀ od, Q x (upd H1 d (.frz od u))
theorem pe_lockv {X : Cx} {e : Expr} {t : TE} (h : PE X e t) : PE X e (tLockV t) := by
  refine ⟨fun pins s σ H Q I hw => ?_⟩
  refine thn (h.run pins s σ _ _ I hw) fun v s1 ⟨x, H1, I1, r, d, u, ex, hd, mu, q⟩ => ?_
  obtain ⟨od, I2⟩ := I1.lock hd mu
  exact ⟨x, _, I2, r, q od⟩
end J

/-! ### sorted texts; the weights that an order accepts; drawn operations as a signature's -/
namespace J
open PySem L2 PyProof.Rows
theorem strsD_eqv : ∀ a b : List Str, PyData.eqvAll (a.map PyData.str) (b.map PyData.str) = decide (a = b)
  | [], [] => rfl
  | [], _ :: _ => rfl
  | _ :: _, [] => rfl
  | x :: a, y :: b => by
    show ((x == y) && PyData.eqvAll (a.map PyData.str) (b.map PyData.str)) = _
    rw [strsD_eqv a b]
    by_cases h : x = y
    · subst h
      by_cases h2 : a = b
      · subst h2; simp
      · simp [h2]
    · simp [h]
theorem strsD_dp {K : PySem.W.Frag} {H : Hp} : ∀ l : List Str, DpAll K H (l.map V.str) (l.map PyData.str)
  | [] => .nil
  | x :: l => .cons (.str x) (strsD_dp l)
theorem strsD_lay : ∀ l : List Str, (∀ x ∈ l, PyData.strOk x = true) → PyData.canLayAll0 (l.map PyData.str) = true ∧ PyData.depthAll (l.map PyData.str) = 0
  | [], _ => ⟨rfl, rfl⟩
  | x :: l, h => by
    obtain ⟨a, b⟩ := strsD_lay l fun y hy => h y (List.mem_cons_of_mem _ hy)
    exact ⟨by show (PyData.strOk x && PyData.canLayAll0 (l.map PyData.str)) = true; rw [h x (List.mem_cons_self ..), a]; rfl, by show max 0 (PyData.depthAll (l.map PyData.str)) = 0; rw [b]; rfl⟩
theorem strsD_shaped (l : List Str) (h : ∀ x ∈ l, PyData.strOk x = true) : SeqAt.shaped (.list (l.map PyData.str)) = true := by
  obtain ⟨a, b⟩ := strsD_lay l h
  unfold SeqAt.shaped
  have h1 : (PyData.list (l.map PyData.str)).canLay0 = true := a
  have h2 : (PyData.list (l.map PyData.str)).depth = 1 := congrArg (· + 1) b
  rw [h1, h2]; rfl
def leS (a b : Str) : Prop := a.cps.toList ≤ b.cps.toList
theorem rising_pw : ∀ (p : Str) (l : List Str), risingS p l = true → (p :: l).Pairwise leS
  | p, [], _ => List.pairwise_singleton _ _
  | p, x :: r, h => by
    have h : (!PySem.Spec.ltCps x.cps.toList p.cps.toList && risingS x r) = true := h
    rw [Bool.and_eq_true, ltCps_eq] at h
    have ih := rising_pw x r h.2
    have hp : leS p x := by
      have h1 := h.1
      unfold leS
      simpa using h1
    refine List.pairwise_cons.mpr ⟨fun y hy => ?_, ih⟩
    rcases List.mem_cons.mp hy with e | hy
    · rw [e]; exact hp
    · exact List.le_trans hp ((List.pairwise_cons.mp ih).1 y hy)
theorem sorted_pw : ∀ (l : List Str), sortedS l = true → l.Pairwise leS
  | [], _ => .nil
  | x :: r, h => rising_pw x r h
theorem leS_anti {x y : Str} (h1 : leS x y) (h2 : leS y x) : x = y := by
  have := List.le_antisymm h1 h2
  rcases x with ⟨⟨x⟩⟩
  rcases y with ⟨⟨y⟩⟩
  rw [show x = y from this]
theorem perm_uniq : ∀ (a b : List Str), a.Pairwise leS → b.Pairwise leS → a.Perm b → a = b
  | [], b, _, _, h => (List.nil_perm.mp h).symm
  | x :: a, b, pa, pb, h => by
    cases b with
    | nil => exact absurd h.length_eq (by simp)
    | cons y b =>
      have e : x = y := by
        have hx : x ∈ y :: b := h.subset (List.mem_cons_self ..)
        have hy : y ∈ x :: a := h.symm.subset (List.mem_cons_self ..)
        rcases List.mem_cons.mp hx with e | hx
        · exact e
        · rcases List.mem_cons.mp hy with e | hy
          · exact e.symm
          · exact leS_anti ((List.pairwise_cons.mp pa).1 y hy) ((List.pairwise_cons.mp pb).1 x hx)
      subst e
      rw [perm_uniq a b (List.pairwise_cons.mp pa).2 (List.pairwise_cons.mp pb).2 ((List.perm_cons x).mp h)]
/-- the sorted texts of two lists are the same exactly where the one is the other in another order -/
theorem sorted_iff {ys zs a b : List Str} (p1 : ys.Perm a) (s1 : sortedS ys = true) (p2 : zs.Perm b) (s2 : sortedS zs = true) : ys = zs ↔ a.Perm b :=
  ⟨fun e => p1.symm.trans (by rw [e]; exact p2), fun h => perm_uniq ys zs (sorted_pw _ s1) (sorted_pw _ s2) (p1.trans (h.trans p2.symm))⟩
/-! ### weights -/
def AreW (es ws : List Opn) (vw : Int) (g : Str → Int) : Prop := (ws.map (·.nm)).Perm (es.map (·.nm)) ∧ 1 ≤ vw ∧ vw ≤ 1000 ∧ WOk es vw g
theorem kvW_keys (g : Str → Int) (ws : List Opn) : (kvW g ws).map (·.1) = (ws.map (·.nm)).map Sum.inr := by
  unfold kvW
  rw [List.map_map, List.map_map]
  rfl
theorem kvW_drop (g : Str → Int) (f : Str) : ∀ es : List Opn, dropK (kvW g es) (.inr f) = kvW g (es.filter fun e => decide (e.nm ≠ f))
  | [] => rfl
  | e :: es => by
    have ih := kvW_drop g f es
    unfold dropK kvW at ih ⊢
    rw [List.map_cons, List.filter_cons, List.filter_cons]
    by_cases z : e.nm = f
    · rw [if_neg (by simp [z]), if_neg (by simp [z])]
      exact ih
    · rw [if_pos (by simp [z]), if_pos (by simp [z]), List.map_cons, ih]
theorem wo_f2 (a b : V) : putF ("_variable_weight" : Str) b [(("_weights" : Str), a)] = [(("_weights" : Str), a), (("_variable_weight" : Str), b)] := by rw [sg_ne (by decide +kernel)]; rfl
theorem wo_f3 (a b c : V) : putF ("_ranks" : Str) c [(("_weights" : Str), a), (("_variable_weight" : Str), b)] = [(("_weights" : Str), a), (("_variable_weight" : Str), b), (("_ranks" : Str), c)] := by rw [sg_ne (by decide +kernel), sg_ne (by decide +kernel)]; rfl
/-! ### drawn operations as a signature's -/
def opE : Nat → List Str → List Opn
  | _, [] => []
  | k, f :: fs => ⟨f, ar k, false⟩ :: opE (k + 1) fs
theorem opE_nm : ∀ (j : Nat) (fs : List Str), (opE j fs).map (·.nm) = fs
  | _, [] => rfl
  | j, f :: fs => congrArg (f :: ·) (opE_nm (j + 1) fs)
theorem opE_len (j : Nat) (fs : List Str) : (opE j fs).length = fs.length := by
  have := congrArg List.length (opE_nm j fs)
  rwa [List.length_map] at this
theorem opE_get : ∀ {j k : Nat} {fs : List Str} {f : Str}, fs[k]? = some f → (opE j fs)[k]? = some ⟨f, ar (j + k), false⟩
  | _, _, [], _, h => by cases h
  | j, 0, g :: fs, f, h => by
    cases (show some g = some f from h)
    rfl
  | j, k + 1, g :: fs, f, h => by
    show (opE (j + 1) fs)[k]? = _
    rw [opE_get (j := j + 1) (show fs[k]? = some f from h), show j + 1 + k = j + (k + 1) by omega]
theorem opE_back {j k : Nat} {fs : List Str} {e : Opn} (h : (opE j fs)[k]? = some e) : fs[k]? = some e.nm ∧ e.ar = ar (j + k) ∧ e.cm = false := by
  have hk : k < fs.length := by
    have := (List.getElem?_eq_some_iff.mp h).1
    rwa [opE_len] at this
  have q := opE_get (j := j) (List.getElem?_eq_getElem hk)
  rw [h] at q
  cases q
  exact ⟨List.getElem?_eq_getElem hk, rfl, rfl⟩
theorem opE_ops {H : Hp} {o : Addr} {fs : List Str} (h : Ops H o fs) : OpsAt H o (opE 0 fs) := by
  obtain ⟨_, _, as, h1, h2, h3⟩ := h
  refine ⟨as, h1, by rw [opE_len, h2], fun k e a he ha => ?_⟩
  obtain ⟨x, y, _⟩ := opE_back he
  rw [y, Nat.zero_add]
  exact h3 k e.nm a x ha
theorem opE_ok {fs : List Str} (n : Names fs) (hl : fs.length ≤ 6) : ∀ e ∈ opE 0 fs, OpnOk e ∧ e.cm = false := fun e he => by
  obtain ⟨k, hk⟩ := List.mem_iff_getElem?.mp he
  obtain ⟨x, y, z⟩ := opE_back hk
  have m := List.mem_of_getElem? x
  have hk' := (List.getElem?_eq_some_iff.mp x).1
  refine ⟨⟨n.low _ m, n.lo _ m, Nat.le_succ_of_le (n.hi _ m), ?_, fun w => by rw [z] at w; cases w⟩, z⟩
  rw [y]
  exact ar_le (by omega)
/-- turned -/
def rotE (k : Nat) (es : List Opn) : List Opn := es.drop k ++ es.take k
theorem rotE_perm (k : Nat) (es : List Opn) : (rotE k es).Perm es := List.perm_append_comm.trans (by rw [List.take_append_drop])
theorem rotE_len (k : Nat) (es : List Opn) : (rotE k es).length = es.length := (rotE_perm k es).length_eq
theorem rotE_mem {k : Nat} {es : List Opn} {e : Opn} : e ∈ rotE k es ↔ e ∈ es := (rotE_perm k es).mem_iff
theorem rotE_nm (k : Nat) (es : List Opn) : ((rotE k es).map (·.nm)).Perm (es.map (·.nm)) := (rotE_perm k es).map _
theorem rotE_nd {k : Nat} {es : List Opn} (h : (es.map (·.nm)).Nodup) : ((rotE k es).map (·.nm)).Nodup := (rotE_nm k es).nodup_iff.mpr h
/-- the strange name -/
def strg (f : Str) : Str := (("z" : Str) ++ cutS f none (some 6)) ++ ("z" : Str)
theorem low_z : Low ("z" : Str) := fun c hc => by
  have e : ("z" : Str).cps.toList = [122] := by decide +kernel
  rw [e] at hc
  rw [List.mem_singleton.mp hc]
  exact ⟨by omega, Nat.le_refl _⟩
theorem low_cut {f : Str} (h : Low f) (lo hi : Option Int) : Low (cutS f lo hi) := fun c hc => by
  unfold cutS at hc
  exact h c (List.mem_of_mem_drop (List.mem_of_mem_take (by simpa using hc)))
theorem strg_low {f : Str} (h : Low f) : Low (strg f) := low_app (low_app low_z (low_cut h _ _)) low_z
end J

/-! ### try with several except clauses, with names or without -/
namespace J
open PySem PySem.Spec PyProof.Rows L2
def TSX := Addr → Value → Option Addr → TS
/-- the ends of a suite whose name (slot i) goes behind it -/
def endAs (i : Nat) (D : Ends) : Ends := { nx := fun σ' H' => D.nx (σ'.set i none) H', rt := D.rt, bk := fun σ' H' => D.bk (σ'.set i none) H', ct := fun σ' H' => D.ct (σ'.set i none) H' }
def wManyN (K : PySem.W.Frag) (Wout : WX) (D : Ends) : List (Value × Option Nat × TSX) → WX
  | [] => Wout
  | (c, none, ts) :: r => fun cls d σ H => ∃ b, PySem.W.exmOne K cls c = some b ∧ (b = true → ∀ a, H a = none → ts a cls d D σ H) ∧ (b = false → wManyN K Wout D r cls d σ H)
  | (c, some i, ts) :: r => fun cls d σ H => ∃ b, PySem.W.exmOne K cls c = some b ∧ (b = true → ∀ a, H a = none → ts a cls d (endAs i D) (σ.set i (some (.ref a))) H) ∧ (b = false → wManyN K Wout D r cls d σ H)
inductive HdsN (X : Cx) : List ExceptHandler → List (Value × Option Nat × TSX) → Prop
  | nil : HdsN X [] []
  | cons {x : Str} {c : Value} {ts : TSX} {b₀ : Stmt} {suite : List Stmt} {np pos' : Pos} {hds : List ExceptHandler} {l : List (Value × Option Nat × TSX)} (hc : L2.Names X x c)
      (hsu : ∀ (a : Addr) (oe : Obj) (cls : Value) (d : Option Addr) (pn : List (Addr × Obj)), Zc cls d oe → (∃ vs, oe.data = .fields vs) → PSs (X.suite a ((a, oe) :: pn)) (b₀ :: suite) (ts a cls d)) (r : HdsN X hds l) :
      HdsN X (.ExceptHandler (some (.Name x np)) none (b₀ :: suite) pos' :: hds) ((c, none, ts) :: l)
  | as {x n : Str} {c : Value} {i : Nat} {ts : TSX} {b₀ : Stmt} {suite : List Stmt} {np pos' : Pos} {hds : List ExceptHandler} {l : List (Value × Option Nat × TSX)} (hi : X.N[i]? = some n) (hln : X.env.kindOf n = some .local) (hc : L2.Names X x c)
      (hsu : ∀ (a : Addr) (oe : Obj) (cls : Value) (d : Option Addr) (pn : List (Addr × Obj)), Zc cls d oe → (∃ vs, oe.data = .fields vs) → PSs (X.suite a ((a, oe) :: pn)) (b₀ :: suite) (ts a cls d)) (r : HdsN X hds l) :
      HdsN X (.ExceptHandler (some (.Name x np)) (some n) (b₀ :: suite) pos' :: hds) ((c, some i, ts) :: l)
section
variable {X : Cx} {body : List Stmt} {h₀ : ExceptHandler} {hds : List ExceptHandler} {l : List (Value × Option Nat × TSX)} {pos : Pos} {tb : WX → TS} {Wout : WX}
theorem ps_try_manyN (hs : X.stack = X.env :: X.outer) (hf : X.env.frame = some X.env.locals) (hN : X.N.Nodup) (tk : Takes X Wout)
    (hb : ∀ (W : WX) (pn : List (Addr × Obj)) (xe : Value → Shared → Prop), Takes (X.tr pn xe) W → PassesOwn (model X.prog X.w) X.A X.env xe → PSs (X.tr pn xe) body (tb W))
    (hh : HdsN X (h₀ :: hds) l) : PS X (.Try body (h₀ :: hds) [] [] pos) (fun D σ H => tb (wManyN X.K Wout D l) D σ H) := by
  refine ⟨fun pins s σ H D I h => ?_⟩
  have ok := I.ok
  have hfr : X.A.frames = some (X.env :: X.outer) := by rw [ok.frames, hs]
  refine wpAny_Try_except ?_
  refine wpAny_mono ((hb (wManyN X.K Wout D l) (X.pn ++ pins) (fun e s₁ => wpAny (model X.prog X.w) X.A (noteFrame e X.env) (fun _ s₂ => wpAny (model X.prog X.w) X.A (setFlight e none) (fun _ s₃ =>
    wpAny (model X.prog X.w) X.A (handleBy e X.env (h₀ :: hds)) (SP X pins D) X.xe s₃) X.xe s₂) X.xe s₁) (fun u s' xx => ?_) PassesOwn.looking).run [] s σ H D (I.toTry _) h) (fun f s1 hsp => ?_) (fun e s1 he => he)
  · obtain ⟨a, B, sI, pins', σ', H', cls, d, rfl, J', nb, up, sky, na, os, ag, w⟩ := xx
    have J : Inv X pins σ' H' sI := J'.ofTry ok
    have sky' : Sky B (X.env :: X.outer) a (Zc cls d) X.env.locals s'.heap := by rw [← hs]; exact sky
    show wpAny (model X.prog X.w) X.A (noteFrame (.ref a) X.env) _ _ _
    refine Sky.land Zc.steady hfr hf sky' fun h3 fl3 up3 => ?_
    have J3 : Inv X pins σ' H' { s' with heap := h3 } := J.landed nb fl3.1 (up.trans up3) os ag
    obtain ⟨oe3, vs3, he3, hz3, hd3⟩ := fl3.there
    have notFr : ∀ {h : Heap} {o : Obj} {vs : Array Value}, h.FunFrames B (X.env :: X.outer) → h.get? a = some o → o.data = .fields vs → a ∉ frs (X.env :: X.outer) := fun {h o vs} ff e dd hm => by
      obtain ⟨_, o', e', hnf⟩ := ff.mem hm
      rw [e] at e'; cases e'
      exact hnf _ dd
    have nfr := notFr fl3.2.2.1 he3 hd3
    have nL : a ≠ X.env.locals := fun z => nfr (List.mem_filterMap.mpr ⟨X.env, List.mem_cons_self, by rw [hf, z]⟩)
    have nF : a ∉ X.fs := fun hm => by
      obtain ⟨e, he, q⟩ := List.mem_filterMap.mp hm
      exact nfr (List.mem_filterMap.mpr ⟨e, List.mem_cons_of_mem _ he, q⟩)
    have S3 := J3.suite he3 hd3 na nL nF
    have LT : PySem.W.Looks (model X.prog X.w) h3 (typeOf (.ref a)) cls := fun A Q E s k q => wpAny_typeOf_ref (k _ _ he3) (by rw [hz3.1]; exact q)
    have test : ∀ {x : Str} {c : Value} {np : Pos}, L2.Names X x c → ∀ {Q : Value → Shared → Prop} {E : Value → Shared → Prop}, Q c { s' with heap := h3 } → wpAny (model X.prog X.w) (X.A.mark (some (.ref a))) (eval (.Name x np) X.env) Q E { s' with heap := h3 } := fun {x c np} hc {Q E} q => by
      obtain ⟨hg, hdbg, hm | ⟨hm, hv, hnn⟩⟩ := hc
      · exact ld_glob (X := X.suite a ((a, oe3) :: (X.pn ++ pins))) S3 hg hm q hdbg
      · exact ld_blt (X := X.suite a ((a, oe3) :: (X.pn ++ pins))) S3 hg hm hv q hnn hdbg
    have go : ∀ {hds' : List ExceptHandler} {l' : List (Value × Option Nat × TSX)}, HdsN X hds' l' → wManyN X.K Wout D l' cls d σ' H' →
        wpAny (model X.prog X.w) X.A (handleBy (.ref a) X.env hds') (SP X pins D) X.xe { s' with heap := h3 } := by
      intro hds' l' hk
      induction hk with
      | nil =>
        intro w
        refine wpAny_handleBy_nil ?_
        obtain ⟨k1, k2, k3, oe, vs, T, oT, ts', he, hz, hd, h1, hr⟩ := id fl3
        unfold PySem.passOn
        refine wpAny_bind (wpAny_field he hd h1 ?_)
        rw [if_neg (show ¬ ((Value.ref T == Value.none) = true) from by simp)]
        have fin : wpAny (model X.prog X.w) X.A (setFlight (.ref a) X.env.frame) (fun _ s4 => wpAny (model X.prog X.w) X.A (throw (.ref a) : Sem Flow) (SP X pins D) X.xe s4) X.xe { s' with heap := h3 } := by
          rw [hf]
          refine HandSPX.setFlight_upZ fl3 fun h4 hh4 up4 => wpAny_throw (tk _ _ ?_)
          exact ⟨a, B, sI, pins, σ', H', cls, d, rfl, J, nb, (up.trans up3).trans up4, .inr (.inr (by rw [hs]; exact hh4)), na, os, ag, w⟩
        first
          | exact wpAny_bind (wpAny_pure (wpAny_bind fin))
          | exact wpAny_bind fin
      | @cons x c ts b₀ suite np pos' hds2 l2 hc hsu r ih =>
        intro w
        obtain ⟨b, hb1, hyes, hno⟩ := w
        refine wpAny_handleBy_cons (codeAny_handlers_test ?_) (by intro q; cases q)
        have LM := PySem.W.exm_one (M := model X.prog X.w) (J3.kIn) LT hb1
        refine test hc (LM.here ?_)
        cases b with
        | true =>
          refine codeAny_handlers_suite ?_
          refine HandSPX.lands_againZ fl3 fun h4 fl4 up4 => ?_
          have J4 : Inv X pins σ' H' { s' with heap := h4 } := J.landed nb fl4.1 ((up.trans up3).trans up4) os ag
          obtain ⟨oe4, vs4, he4, hz4, hd4⟩ := fl4.there
          have S4 := J4.suite he4 hd4 na nL nF
          refine wpAny_mono ((hsu a oe4 cls d (X.pn ++ pins) hz4 ⟨_, hd4⟩).run [] _ _ H' _ S4 (hyes rfl a na)) (fun f s6 hsp => ?_) (fun _ _ z => False.elim z)
          cases f with
          | next =>
            obtain ⟨σ6, H6, S6, q6⟩ := hsp
            exact ⟨_, _, S6.unsuite ok, q6⟩
          | brk =>
            obtain ⟨σ6, H6, S6, q6⟩ := hsp
            exact ⟨_, _, S6.unsuite ok, q6⟩
          | cont =>
            obtain ⟨σ6, H6, S6, q6⟩ := hsp
            exact ⟨_, _, S6.unsuite ok, q6⟩
          | ret u =>
            obtain ⟨v6, σ6, H6, S6, r6, q6⟩ := hsp
            exact ⟨_, _, _, S6.unsuite ok, r6, q6⟩
        | false =>
          show wpAny _ X.A (handleBy (.ref a) X.env hds2) _ _ _
          exact ih (hno rfl)
      | @as x n c i ts b₀ suite np pos' hds2 l2 hi hln hc hsu r ih =>
        intro w
        obtain ⟨b, hb1, hyes, hno⟩ := w
        refine wpAny_handleBy_cons (codeAny_handlers_test ?_) (by intro q; cases q)
        have LM := PySem.W.exm_one (M := model X.prog X.w) (J3.kIn) LT hb1
        refine test hc (LM.here ?_)
        cases b with
        | true =>
          refine codeAny_handlers_suite_as ?_
          refine HandSPX.lands_againZ fl3 fun h4 fl4 up4 => ?_
          have J4 : Inv X pins σ' H' { s' with heap := h4 } := J.landed nb fl4.1 ((up.trans up3).trans up4) os ag
          obtain ⟨oe4, vs4, he4, hz4, hd4⟩ := fl4.there
          have S4 := J4.suite he4 hd4 na nL nF
          refine store_ok (X := X.suite a ((a, oe4) :: (X.pn ++ pins))) (v := .ref a) S4 hN hi (.inl hln) rfl (fun s5 S5 => ?_) (.inr hln)
          refine wpAny_mono ((hsu a oe4 cls d (X.pn ++ pins) hz4 ⟨_, hd4⟩).run [] s5 _ H' _ S5 (hyes rfl a na)) (fun f s6 hsp => ?_) (fun _ _ z => False.elim z)
          have end_ : ∀ {σ6 : L2.St} {H6 : Hp} {Q : Shared → Prop}, Inv (X.suite a ((a, oe4) :: (X.pn ++ pins))) [] σ6 H6 s6 → (∀ s7, Inv X pins (σ6.set i none) H6 s7 → Q s7) →
              wpAny (model X.prog X.w) X.A (do bindName X.env n .none; unbindBehindTheSuite X.env n pos') (fun _ s7 => Q s7) X.xe s6 := fun {σ6 H6 Q} S6 hq => gone_ok (S6.unsuite ok) hN hi hln hq
          cases f with
          | next =>
            obtain ⟨σ6, H6, S6, q6⟩ := hsp
            exact end_ S6 fun s7 J7 => ⟨_, _, J7, q6⟩
          | brk =>
            obtain ⟨σ6, H6, S6, q6⟩ := hsp
            exact end_ S6 fun s7 J7 => ⟨_, _, J7, q6⟩
          | cont =>
            obtain ⟨σ6, H6, S6, q6⟩ := hsp
            exact end_ S6 fun s7 J7 => ⟨_, _, J7, q6⟩
          | ret u =>
            obtain ⟨v6, σ6, H6, S6, r6, q6⟩ := hsp
            exact end_ S6 fun s7 J7 => ⟨_, _, _, J7, r6, q6⟩
        | false =>
          show wpAny _ X.A (handleBy (.ref a) X.env hds2) _ _ _
          exact ih (hno rfl)
    exact go hh w
  · cases f with
    | next =>
      obtain ⟨σ', H', J', q⟩ := hsp
      exact wpAny_execs_nil ⟨σ', H', J'.ofTry ok, q⟩
    | brk =>
      obtain ⟨σ', H', J', q⟩ := hsp
      exact ⟨σ', H', J'.ofTry ok, q⟩
    | cont =>
      obtain ⟨σ', H', J', q⟩ := hsp
      exact ⟨σ', H', J'.ofTry ok, q⟩
    | ret u =>
      obtain ⟨v, σ', H', J', r, q⟩ := hsp
      exact ⟨v, σ', H', J'.ofTry ok, r, q⟩
end
end J
namespace J
open PySem L2
/-- a clause that names a class of errors meets an error of another class -/
theorem exm_from {K : PySem.W.Frag} {C : Addr} {cls : Value} {b : Bool} (h : PySem.W.exmOne K (.ref C) (.ref C) = some true) (s : PySem.W.subIn K cls (.ref C) = some b) : PySem.W.exmOne K cls (.ref C) = some b := by
  have h : (if (PySem.W.subIn K (.ref C) (.type "BaseException") == some true) = true then (if ((PySem.W.clsIn K C).isSome && PySem.W.typeIn K (.ref C) == some (.type "type")) = true then PySem.W.subIn K (.ref C) (.ref C) else none) else none) = some true := h
  show (if (PySem.W.subIn K (.ref C) (.type "BaseException") == some true) = true then (if ((PySem.W.clsIn K C).isSome && PySem.W.typeIn K (.ref C) == some (.type "type")) = true then PySem.W.subIn K cls (.ref C) else none) else none) = some b
  split at h
  · rename_i e1
    rw [if_pos e1]
    split at h
    · rename_i e2
      rw [if_pos e2]
      exact s
    · cases h
  · cases h
end J

/-! ### the first fault of a term against a list of operations -/
namespace J
open PySem L2
def arOf : List Opn → Str → Option Nat
  | [], _ => none
  | e :: es, f => if e.nm = f then some e.ar else arOf es f
theorem arOf_none {f : Str} : ∀ {es : List Opn}, arOf es f = none → f ∉ es.map (·.nm)
  | [], _, h => nomatch h
  | e :: es, q, h => by
    unfold arOf at q
    by_cases z : e.nm = f
    · rw [if_pos z] at q; cases q
    · rw [if_neg z] at q
      rcases List.mem_cons.mp (show f ∈ e.nm :: es.map (·.nm) from h) with y | y
      · exact z y.symm
      · exact arOf_none q y
theorem arOf_some {f : Str} {a : Nat} : ∀ {es : List Opn}, arOf es f = some a → ∃ (j : Nat) (e : Opn), es[j]? = some e ∧ e.nm = f ∧ e.ar = a
  | [], q => by cases q
  | e :: es, q => by
    unfold arOf at q
    by_cases z : e.nm = f
    · rw [if_pos z] at q
      exact ⟨0, e, rfl, z, Option.some.inj q⟩
    · rw [if_neg z] at q
      obtain ⟨j, e', h1, h2, h3⟩ := arOf_some q
      exact ⟨j + 1, e', h1, h2, h3⟩
theorem arOf_val {es : List Opn} (nd : (es.map (·.nm)).Nodup) (f : Str) : valV (kvA es) (.inr f) = (arOf es f).map fun a => V.int (a : Int) := by
  cases e : arOf es f with
  | none => exact kv_none (g := fun e => V.int (e.ar : Int)) (arOf_none e)
  | some a =>
    obtain ⟨j, x, h1, h2, h3⟩ := arOf_some e
    rw [← h2, ← h3]
    exact kv_some (g := fun e => V.int (e.ar : Int)) nd (List.mem_of_getElem? h1)
def nodeF (es : List Opn) : Tm → Option (Bool × Str)
  | .var _ => none
  | .app f ts => match arOf es f with
    | none => some (true, f)
    | some a => if a = ts.length then none else some (false, f)
mutual
def flt (es : List Opn) : Tm → Option (Bool × Str)
  | .var _ => none
  | .app f ts => (nodeF es (.app f ts)).or (flts es ts)
def flts (es : List Opn) : List Tm → Option (Bool × Str)
  | [] => none
  | t :: ts => (flt es t).or (flts es ts)
end
theorem flts_app (es : List Opn) : ∀ a b : List Tm, flts es (a ++ b) = (flts es a).or (flts es b)
  | [], _ => rfl
  | t :: a, b => by show (flt es t).or (flts es (a ++ b)) = ((flt es t).or (flts es a)).or (flts es b); rw [flts_app es a b, Option.or_assoc]
/-- the first of the faults at the nodes -/
def fsome : List (Option (Bool × Str)) → Option (Bool × Str)
  | [] => none
  | x :: r => x.or (fsome r)
theorem fsome_app : ∀ a b : List (Option (Bool × Str)), fsome (a ++ b) = (fsome a).or (fsome b)
  | [], _ => rfl
  | x :: a, b => by show x.or (fsome (a ++ b)) = (x.or (fsome a)).or (fsome b); rw [fsome_app a b, Option.or_assoc]
def nodeO (es : List Opn) : Option Tm → Option (Bool × Str)
  | none => none
  | some t => nodeF es t
mutual
theorem flt_poss (es : List Opn) : ∀ t : Tm, flt es t = fsome ((poss t).map fun q => nodeO es (at? q t))
  | .var n => rfl
  | .app f ts => by
    show (nodeF es (.app f ts)).or (flts es ts) = (nodeF es (.app f ts)).or (fsome ((posss 1 ts).map fun q => nodeO es (at? q (.app f ts))))
    rw [flts_posss es f [] ts]
    rfl
theorem flts_posss (es : List Opn) (f : Str) : ∀ (pre ts : List Tm), flts es ts = fsome ((posss (pre.length + 1) ts).map fun q => nodeO es (at? q (.app f (pre ++ ts))))
  | _, [] => rfl
  | pre, t :: ts => by
    show (flt es t).or (flts es ts) = fsome (((poss t).map (fun q => ((pre.length + 1 : Nat) : Int) :: q) ++ posss (pre.length + 1 + 1) ts).map fun q => nodeO es (at? q (.app f (pre ++ t :: ts))))
    rw [List.map_append, fsome_app, flt_poss es t, List.map_map]
    have ih := flts_posss es f (pre ++ [t]) ts
    rw [List.length_append, List.length_singleton, List.append_assoc] at ih
    rw [ih]
    congr 2
    refine List.map_congr_left fun q _ => ?_
    show nodeO es (at? q t) = nodeO es (if 1 ≤ ((pre.length + 1 : Nat) : Int) then ((pre ++ t :: ts)[(((pre.length + 1 : Nat) : Int) - 1).toNat]?).bind (at? q) else none)
    rw [if_pos (by omega), show (((pre.length + 1 : Nat) : Int) - 1).toNat = pre.length by omega, List.getElem?_append_right (Nat.le_refl _), Nat.sub_self]
    rfl
end
/-! every symbol is a low text -/
mutual
def Tm.lw : Tm → Prop
  | .var _ => True
  | .app f ts => Low f ∧ Tm.lws ts
def Tm.lws : List Tm → Prop
  | [] => True
  | t :: ts => t.lw ∧ Tm.lws ts
end
theorem lws_get : ∀ {ts : List Tm} {i : Nat} {t : Tm}, Tm.lws ts → ts[i]? = some t → t.lw
  | [], _, _, _, h => by cases h
  | _ :: _, 0, _, w, h => by cases (show some _ = some _ from h); exact w.1
  | _ :: ts, i + 1, _, w, h => lws_get (ts := ts) (i := i) w.2 h
theorem lws_set : ∀ {ts : List Tm} {i : Nat} {t : Tm}, Tm.lws ts → t.lw → Tm.lws (ts.set i t)
  | [], _, _, w, _ => w
  | _ :: _, 0, _, w, h => ⟨h, w.2⟩
  | _ :: ts, i + 1, _, w, h => ⟨w.1, lws_set (ts := ts) (i := i) w.2 h⟩
theorem lws_app : ∀ {a b : List Tm}, Tm.lws a → Tm.lws b → Tm.lws (a ++ b)
  | [], _, _, h => h
  | _ :: _, _, w, h => ⟨w.1, lws_app w.2 h⟩
theorem lws_take : ∀ {a : List Tm} {n : Nat}, Tm.lws a → Tm.lws (a.take n)
  | [], _, _ => by rw [List.take_nil]; trivial
  | _ :: _, 0, _ => trivial
  | _ :: _, n + 1, w => ⟨w.1, lws_take (n := n) w.2⟩
theorem rep_lw {u : Tm} (hu : u.lw) : ∀ (q : List Int) (t : Tm), t.lw → (rep u q t).lw
  | [], _, _ => hu
  | k :: q, .app f ts, w => by
    refine ⟨w.1, lws_set w.2 ?_⟩
    rw [List.getD_eq_getElem?_getD]
    cases e : ts[(k - 1).toNat]? with
    | none => exact rep_lw hu q u hu
    | some x => exact rep_lw hu q x (lws_get w.2 e)
  | _ :: _, .var _, w => w
theorem at_lw : ∀ (q : List Int) (t c : Tm), at? q t = some c → t.lw → c.lw
  | [], t, c, h, w => by cases (show some t = some c from h); exact w
  | k :: q, .app f ts, c, h, w => by
    have h : (if 1 ≤ k then (ts[(k - 1).toNat]?).bind (at? q) else none) = some c := h
    split at h
    · cases e : ts[(k - 1).toNat]? with
      | none => rw [e] at h; cases h
      | some x => rw [e] at h; exact at_lw q x c h (lws_get w.2 e)
    · cases h
  | _ :: _, .var _, _, h, _ => nomatch h
mutual
theorem wf_lw {fs : List Str} {B : Int} (hn : Names fs) : ∀ t : Tm, t.wf fs B → t.lw
  | .var _, _ => trivial
  | .app _ ts, w => by
    obtain ⟨⟨k, hk, _⟩, ws⟩ := w
    exact ⟨hn.low _ (List.mem_of_getElem? hk), wfs_lw hn ts ws⟩
theorem wfs_lw {fs : List Str} {B : Int} (hn : Names fs) : ∀ ts : List Tm, Tm.wfs fs B ts → Tm.lws ts
  | [], _ => trivial
  | t :: ts, w => ⟨wf_lw hn t w.1, wfs_lw hn ts w.2⟩
end
theorem nodeF_name {es : List Opn} {g f : Str} {ts : List Tm} {b : Bool} (h : nodeF es (.app g ts) = some (b, f)) : f = g := by
  have h : (match arOf es g with | none => some (true, g) | some a => if a = ts.length then none else some (false, g)) = some (b, f) := h
  cases e : arOf es g with
  | none => rw [e] at h; cases h; rfl
  | some a =>
    rw [e] at h
    have h : (if a = ts.length then none else some (false, g)) = some (b, f) := h
    by_cases z : a = ts.length
    · rw [if_pos z] at h; cases h
    · rw [if_neg z] at h; cases h; rfl
mutual
theorem flt_low {es : List Opn} {b : Bool} {f : Str} : ∀ t : Tm, t.lw → flt es t = some (b, f) → Low f
  | .var _, _, h => nomatch h
  | .app g ts, w, h => by
    have h : (nodeF es (.app g ts)).or (flts es ts) = some (b, f) := h
    cases e : nodeF es (.app g ts) with
    | none => rw [e] at h; exact flts_low ts w.2 h
    | some x =>
      rw [e] at h
      have h : some x = some (b, f) := h
      cases h
      rw [nodeF_name e]; exact w.1
theorem flts_low {es : List Opn} {b : Bool} {f : Str} : ∀ ts : List Tm, Tm.lws ts → flts es ts = some (b, f) → Low f
  | [], _, h => nomatch h
  | t :: ts, w, h => by
    have h : (flt es t).or (flts es ts) = some (b, f) := h
    cases e : flt es t with
    | none => rw [e] at h; exact flts_low ts w.2 h
    | some x => rw [e] at h; have h : some x = some (b, f) := h; cases h; exact flt_low t w.1 e
end
/-- what is told of a term -/
def telF (es : List Opn) (t : Tm) : Str × Str := match flt es t with
  | some (true, f) => ("unknown", f)
  | some (false, f) => ("arity", f)
  | none => if t.dep ≤ 30 ∧ t.sz ≤ 400 then ("fits", "") else ("large", "")
end J

/-! ### x in o by the own __contains__ of o's class -/
namespace J
open PySem PySem.Spec PyProof.Rows L2
structure InC (K : PySem.W.Frag) (C f : Addr) : Prop where
  it : PySem.W.findIn K (.ref C) "__contains__" = some (some (.ref f))
  fn : PySem.W.isFn K (.ref f) = true
def tInO (C : Addr) (sp : Sp) (E : XK) (ty to : TE) : TE := fun σ H Q => ty σ H fun y H1 => to σ H1 fun x H2 => ∃ a dx fs, x = .ref a ∧ H2 a = some (.ins C dx fs) ∧
  sp [.ref a, y] H2 (fun v H' => ∃ b : Bool, v = .bl b ∧ Q (.bl b) H') E
def tNotInO (C : Addr) (sp : Sp) (E : XK) (ty to : TE) : TE := fun σ H Q => ty σ H fun y H1 => to σ H1 fun x H2 => ∃ a dx fs, x = .ref a ∧ H2 a = some (.ins C dx fs) ∧
  sp [.ref a, y] H2 (fun v H' => ∃ b : Bool, v = .bl b ∧ Q (.bl (!b)) H') E
section
variable {X : Cx} {CX : CXT} {k : Nat} {C f : Addr} {fd : FuncData} {ps : List Str} {sp : Sp} {E : XK}
theorem ownIn {pins : List (Addr × Obj)} {s : Shared} {σ : L2.St} {H : Hp} {a dx : Addr} {fs : List (Str × V)} {y : V} {iv : Value} {P : Bool → Hp → Prop} (hc : InC X.K C f) (F : FnOk X.prog X.w X.K X.mg X.base CX k f fd ps sp) (hr : Room k X.A) (hb : Binds X.K fd ps []) (hx : Passes CX X E)
    (I : Inv X pins σ H s) (ha : H a = some (.ins C dx fs)) (ry : RelV y iv) (hs : sp [.ref a, y] H (fun v H' => ∃ b : Bool, v = .bl b ∧ P b H') E) :
    wpAny (model X.prog X.w) X.A (contains (.ref a) iv) (fun b s' => ∃ H', Inv X pins σ H' s' ∧ P b H') X.xe s := by
  obtain ⟨mA, J, _⟩ := ins_get I.hok ha
  obtain ⟨od, J, _⟩ := J.look
  have hl := F.len _ _ _ _ hs
  unfold contains
  refine wpAny_holding ?_
  rw [stdlibNamesSay?_ref]
  refine wpAny_bind (wpAny_bind (J.type.here ((PySem.W.looks_findIn I.kIn hc.it).here ?_)))
  show wpAny _ _ (if (some (Value.ref f) == some Value.none) = true then _ else _) _ _ _
  rw [if_neg (by simp)]
  refine wpAny_bind (wpAny_bind (wpAny_bind (J.type.here ((PySem.W.looks_findIn I.kIn hc.it).here ?_))))
  refine wpAny_holding (wpAny_bind ((PySem.W.bind_fn I.kIn _ (beq_iff_eq.mp hc.fn)).here ?_))
  show wpAny _ _ (if (Value.ref f == Value.none) = true then _ else _) _ _ _
  rw [if_neg (by simp)]
  refine wpAny_bind (wpAny_call (codeAny_mono (F.run X.A X.stack s H ⟨[.ref a, iv], []⟩ [.ref a, iv] [.ref a, y] _ E hr I.env0 (by
    have := hb s [.ref a, iv] I.kIn (by simpa using hl)
    simpa using this) (.cons rfl (.cons ry .nil)) hs) fun r s' hq => ?_))
  cases r with
  | error e => exact hx pins σ H s e s' I hq
  | ok fl =>
    cases fl with
    | next => exact False.elim hq
    | brk => exact False.elim hq
    | cont => exact False.elim hq
    | ret u =>
      obtain ⟨v, H', I', rv, b, rfl, q⟩ := I.after hq
      cases rv
      exact wpAny_pure (wpAny_pure ⟨H', I', q⟩)
theorem pc_inO {i o : Expr} {ty to : TE} (hc : InC X.K C f) (F : FnOk X.prog X.w X.K X.mg X.base CX k f fd ps sp) (hr : Room k X.A) (hb : Binds X.K fd ps []) (hx : Passes CX X E) (hi : PE X i ty) (ho : PE X o to) : PC X .In i o (tInO C sp E ty to) := by
  refine ⟨fun pins s σ H Q I h => ?_⟩
  refine thn (hi.run pins s σ H _ I h) fun iv s1 ⟨y, H1, I1, ry, q1⟩ => thn (ho.run pins s1 σ H1 _ I1 q1) fun u s2 ⟨x, H2, I2, rx, a, dx, fs, ex, ha, q2⟩ => ?_
  subst ex
  obtain rfl : u = Value.ref a := rx
  show wpAny _ _ (contains (.ref a) iv >>= fun r => pure (Value.bool r)) _ _ _
  exact wpAny_bind (thn (ownIn (P := fun b H' => Q (.bl b) H') hc F hr hb hx I2 ha ry q2) fun b s3 ⟨H', I', q⟩ => wpAny_pure ⟨.bl b, H', I', rfl, q⟩)
theorem pc_notInO {i o : Expr} {ty to : TE} (hc : InC X.K C f) (F : FnOk X.prog X.w X.K X.mg X.base CX k f fd ps sp) (hr : Room k X.A) (hb : Binds X.K fd ps []) (hx : Passes CX X E) (hi : PE X i ty) (ho : PE X o to) : PC X .NotIn i o (tNotInO C sp E ty to) := by
  refine ⟨fun pins s σ H Q I h => ?_⟩
  refine thn (hi.run pins s σ H _ I h) fun iv s1 ⟨y, H1, I1, ry, q1⟩ => thn (ho.run pins s1 σ H1 _ I1 q1) fun u s2 ⟨x, H2, I2, rx, a, dx, fs, ex, ha, q2⟩ => ?_
  subst ex
  obtain rfl : u = Value.ref a := rx
  show wpAny _ _ (contains (.ref a) iv >>= fun r => pure (Value.bool (!r))) _ _ _
  exact wpAny_bind (thn (ownIn (P := fun b H' => Q (.bl (!b)) H') hc F hr hb hx I2 ha ry q2) fun b s3 ⟨H', I', q⟩ => wpAny_pure ⟨.bl (!b), H', I', rfl, q⟩)
end
end J
/-! ### o.m(..) and o.m(.., k = v) that may raise, in a try or where no error comes -/
namespace J
open PySem PySem.Spec PyProof.Rows L2
section
variable {X : Cx} {CX : CXT} {k n : Nat} {f C : Addr} {fd : FuncData} {ps ks : List Str} {sp : Sp} {E : L2.St → XK} {m : Str} {pos apos : Pos} {e o : Expr} {es : List Expr} {kws : List Keyword} {ta : TE} {t tk : TA} {g : List Value → List Value → List Value} {gV : List V → List V → List V} {ds : List Value} {dvs : List V}
theorem run_fnNS {pins : List (Addr × Obj)} {σ : L2.St} {H : Hp} {s : Shared} {Q : VK} {us ws : List Value} {vs zs : List V} (F : FnOk X.prog X.w X.K X.mg X.base CX k f fd ps sp) (hr : Room k X.A) (hb : KBn X.K fd ps n ks g gV) (hx : PassesAt CX X σ (E σ))
    (I : Inv X pins σ H s) (r : Vals vs us) (rz : Vals zs ws) (l1 : vs.length = n) (l2 : zs.length = ks.length) (h : sp (gV vs zs) H Q (E σ)) : wpAny (model X.prog X.w) X.A (call (.ref f) us (ks.zip ws)) (EP X pins σ Q) X.xe s := by
  have r2 := hb.rel r rz
  refine wpAny_call (codeAny_mono (F.run X.A X.stack s H ⟨us, ks.zip ws⟩ (g us ws) (gV vs zs) Q (E σ) hr I.env0 (hb.to s us ws I.kIn (r.length.symm.trans l1) (rz.length.symm.trans l2)) r2 h) fun r s' hq => ?_)
  cases r with
  | error e => exact hx pins H s e s' I hq
  | ok fl =>
    cases fl with
    | ret u => exact I.after hq
    | next => exact False.elim hq
    | brk => exact False.elim hq
    | cont => exact False.elim hq
def tMethNS (C : Addr) (m : Str) (n j : Nat) (sp : Sp) (gV : List V → List V → List V) (E : L2.St → XK) (ta : TE) (t tk : TA) : TE := fun σ H Q => ta σ H fun x H1 => ∃ a dx fs, x = .ref a ∧ H1 a = some (.ins C dx fs) ∧ fs.lookup m = none ∧
  t σ H1 fun vs H2 => tk σ H2 fun zs H3 => vs.length + 1 = n ∧ zs.length = j ∧ sp (gV (x :: vs) zs) H3 Q (E σ)
theorem pe_methNS {pl : Sem Bool} (he : PE X o ta) (c : Cls X.K C) (hm : Meth X.K C m f) (F : FnOk X.prog X.w X.K X.mg X.base CX k f fd ps sp) (hr : Room k X.A) (hb : KBn X.K fd ps n ks g gV) (hx : ∀ σ, PassesAt CX X σ (E σ)) (ha : PA X (e :: es) t) (hkw : PK X kws tk)
    (hall : (backToKw pos (keywordEach kws X.env)).all (·.1.isSome) = true := by rfl) (hks : (backToKw pos (keywordEach kws X.env)).filterMap (·.1) = ks := by rfl)
    (hst : starEach (e :: es) X.env = (false, eval e X.env) :: starEach es X.env := by rfl) (hpl : ((backTo pos (starEach (e :: es) X.env)).any (·.1) || (backToKw pos (keywordEach kws X.env)).any (·.1.isNone)) = false := by rfl)
    (ht : eval (.Call (.Attribute o m apos) (e :: es) kws pos) X.env = (do
      let ov ← eval o X.env
      standAt apos.atName
      let (f, first) ← holding [ov] (getMethod ov m pl)
      callWith pos f first (backTo pos (starEach (e :: es) X.env)) (backToKw pos (keywordEach kws X.env))) := by rfl) :
    PE X (.Call (.Attribute o m apos) (e :: es) kws pos) (tMethNS C m n ks.length sp gV E ta t tk) := by
  refine ⟨fun pins s σ H Q I h => ?_⟩
  refine PySem.W.methodCall_KW (pl := pl) (thn (he.run pins s σ H _ I h) fun u s1 ⟨x, H1, I1, rx, a, dx, fs, ex, ea, l, q⟩ => ?_) ht
  subst ex
  obtain rfl : u = Value.ref a := rx
  refine getmeth_ok I1 ea c hm l ?_
  refine PySem.W.callWith_KW (first := [.ref a]) (h₀ := X.base) I.ok.mod.kin hm.kp hall (thn (ha.run pos pins s1 σ H1 _ I1 q) fun us s2 ⟨vs, H2, I2, r, q2⟩ => ?_) hpl hst
  refine thn (hkw.run pos pins s2 σ H2 _ I2 q2) fun ws s3 ⟨zs, H3, I3, rz, l1, l2, q3⟩ => ⟨I3.kIn, ?_⟩
  rw [hks]
  exact run_fnNS (us := .ref a :: us) (vs := .ref a :: vs) F hr hb (hx σ) I3 (.cons rfl r) rz l1 l2 q3
def tMethSD (C : Addr) (m : Str) (sp : Sp) (dvs : List V) (E : L2.St → XK) (ta : TE) (t : TA) : TE := fun σ H Q => ta σ H fun x H1 => ∃ a dx fs, x = .ref a ∧ H1 a = some (.ins C dx fs) ∧ fs.lookup m = none ∧
  t σ H1 fun vs H2 => sp (x :: (vs ++ dvs)) H2 Q (E σ)
theorem pe_methSD {pl : Sem Bool} (he : PE X o ta) (c : Cls X.K C) (hm : Meth X.K C m f) (F : FnOk X.prog X.w X.K X.mg X.base CX k f fd ps sp) (hr : Room k X.A) (hb : Binds X.K fd ps ds) (hd : Vals dvs ds) (hx : ∀ σ, PassesAt CX X σ (E σ)) (ha : PA X (e :: es) t)
    (hst : starEach (e :: es) X.env = (false, eval e X.env) :: starEach es X.env := by rfl) (hpl : (backTo pos (starEach es X.env)).any (·.1) = false := by rfl)
    (ht : eval (.Call (.Attribute o m apos) (e :: es) [] pos) X.env = (do
      let ov ← eval o X.env
      standAt apos.atName
      let (f, first) ← holding [ov] (getMethod ov m pl)
      callWith pos f first (backTo pos (starEach (e :: es) X.env)) (backToKw pos (keywordEach [] X.env))) := by rfl) :
    PE X (.Call (.Attribute o m apos) (e :: es) [] pos) (tMethSD C m sp dvs E ta t) := by
  refine ⟨fun pins s σ H Q I h => ?_⟩
  refine PySem.W.methodCall_KW (pl := pl) (thn (he.run pins s σ H _ I h) fun u s1 ⟨x, H1, I1, rx, a, dx, fs, ex, ea, l, q⟩ => ?_) ht
  subst ex
  obtain rfl : u = Value.ref a := rx
  refine getmeth_ok I1 ea c hm l ?_
  refine PySem.W.callWith_K (first := [.ref a]) (h₀ := X.base) I.ok.mod.kin hm.kp (thn (ha.run pos pins s1 σ H1 _ I1 q) fun us s2 ⟨vs, H2, I2, r, q2⟩ => ⟨I2.kIn, ?_⟩) hst hpl
  exact run_fnSD (us := .ref a :: us) (vs := .ref a :: vs) F hr hb hd (hx σ) I2 (.cons rfl r) q2
end
end J
/-! ### a field in a comprehension: the rule names no block -/
namespace J
open PySem PyProof.Rows L2
theorem pe_fldK {X : Cx} {K : PySem.W.Frag} {e : Expr} {ta : TE} {f : Str} {pos : Pos} (hK : X.K = K) (he : PE X e ta) (hb : attributeBase e f X.env (eval e X.env) = eval e X.env) : PE X (.Attribute e f pos) (tFld K ta f) := by
  subst hK
  exact pe_fld he hb
end J

namespace Lw
open PySem L2 PyProof.Rows J
local macro_rules | `(tactic| walk_at "hp") => `(tactic| first | assumption | exact upd_same)
local macro_rules | `(tactic| walk_at "side") => `(tactic| first
  | (show (0 : Int) < _; decide)
  | exact Or.inr ⟨by decide, by decide⟩
  | exact Or.inl ⟨by decide, by decide⟩
  | exact ⟨by decide, by decide⟩
  | exact ⟨by decide, by decide, by decide⟩
  | (show (_ : Int) ≠ 0; omega)
  | (show _ < _; omega)
  | exact ⟨by omega, by omega⟩
  | exact Or.inl ⟨by omega, by omega⟩
  | exact Or.inr ⟨by omega, by omega⟩)
local macro_rules | `(tactic| walk_at "rd1") => `(tactic| first
  | refine ⟨_, rfl, ?_⟩
  | refine ⟨_, _, rfl, rfl, by walk_at "side", ?_⟩
  | refine ⟨_, _, rfl, rfl, ?_⟩
  | refine .inl ⟨_, rfl, ?_⟩
  | refine ⟨_, _, _, _, rfl, rfl, SqL.of (by walk_at "hp"), by first | assumption | exact at_zero | rfl, ?_⟩
  | refine ⟨_, _, _, _, rfl, rfl, SqT.of (by walk_at "hp"), by first | assumption | exact at_zero | rfl, ?_⟩
  | refine ⟨_, _, rfl, .inl (SqL.of (by walk_at "hp")), ?_⟩
  | refine ⟨_, _, rfl, .inr (SqT.of (by walk_at "hp")), ?_⟩
  | refine ⟨_, _, _, _, rfl, rfl, by walk_at "hp", rfl, ?_⟩
  | refine ⟨rfl, ?_⟩)
local macro_rules | `(tactic| walk_at "rd") => `(tactic| repeat walk_at "rd1")
local macro_rules | `(tactic| walk_at "isi") => `(tactic| first
  | refine ⟨_, _, _, _, true, rfl, .ty _, .base (.int _), kit_ty (by decide +kernel), ?_⟩
  | refine ⟨_, _, _, _, false, rfl, .ty _, .base (.int _), kit_ty (by decide +kernel), ?_⟩
  | refine ⟨_, _, _, _, true, rfl, .ty _, .base (.tup (by walk_at "hp")), kit_ty (by decide +kernel), ?_⟩
  | refine ⟨_, _, _, _, false, rfl, .ty _, .base (.tup (by walk_at "hp")), kit_ty (by decide +kernel), ?_⟩
  | refine ⟨_, _, _, _, true, rfl, .ty _, .base (.lst (by walk_at "hp")), kit_ty (by decide +kernel), ?_⟩
  | refine ⟨_, _, _, _, false, rfl, .ty _, .base (.lst (by walk_at "hp")), kit_ty (by decide +kernel), ?_⟩
  | refine ⟨_, _, _, _, true, rfl, .ty _, .base (.dK (by walk_at "hp")), kit_ty (by decide +kernel), ?_⟩
  | refine ⟨_, _, _, _, false, rfl, .ty _, .base (.dK (by walk_at "hp")), kit_ty (by decide +kernel), ?_⟩
  | refine ⟨_, _, _, _, true, rfl, .ty _, .base (.str _), kit_ty (by decide +kernel), ?_⟩
  | refine ⟨_, _, _, _, false, rfl, .ty _, .base (.str _), kit_ty (by decide +kernel), ?_⟩
  | refine ⟨_, _, _, _, true, rfl, .ty _, .base (.bl _), kit_ty (by decide +kernel), ?_⟩
  | refine ⟨_, _, _, _, false, rfl, .ty _, .base (.bl _), kit_ty (by decide +kernel), ?_⟩
  | refine ⟨_, _, _, _, true, rfl, .ty _, .base (.non), kit_ty (by decide +kernel), ?_⟩
  | refine ⟨_, _, _, _, false, rfl, .ty _, .base (.non), kit_ty (by decide +kernel), ?_⟩)
local macro_rules | `(tactic| walk_at "sl1") => `(tactic| (refine ⟨_, _, rfl, SqT.of (by walk_at "hp"), sl1c _ _, ?_⟩; rw [cut1]))
local macro_rules | `(tactic| walk_at "ri") => `(tactic| repeat (first | walk_at "rd1" | walk_at "isi"))

def topS (i : Nat) : Stmt := PySem.Challenge.pw_joinedends_k08_declare.main.body.getD i (.Pass ⟨0, 0, 0, 0⟩)
abbrev s_Signature___iter : Stmt := inClass (topS 14) 3
theorem sc_Signature___iter : FnScope ["self"] ["self"] (defScope s_Signature___iter) := ⟨rfl, rfl, rfl, by decide +kernel, rfl, by decide +kernel, by decide +kernel⟩
abbrev s_Signature___len : Stmt := inClass (topS 14) 1
theorem sc_Signature___len : FnScope ["self"] ["self"] (defScope s_Signature___len) := ⟨rfl, rfl, rfl, by decide +kernel, rfl, by decide +kernel, by decide +kernel⟩
abbrev s_u_law_state : Stmt := topS 19
theorem sc_u_law_state : FnScope ["script"] ["script"] (defScope s_u_law_state) := ⟨rfl, rfl, rfl, by decide +kernel, rfl, by decide +kernel, by decide +kernel⟩
abbrev s_Signature___init : Stmt := inClass (topS 14) 0
theorem sc_Signature___init : FnScope ["self"] ["self"] (defScope s_Signature___init) := ⟨rfl, rfl, rfl, by decide +kernel, rfl, by decide +kernel, by decide +kernel⟩
abbrev s_Signature___contains : Stmt := inClass (topS 14) 2
theorem sc_Signature___contains : FnScope ["self", "name"] ["self", "name"] (defScope s_Signature___contains) := ⟨rfl, rfl, rfl, by decide +kernel, rfl, by decide +kernel, by decide +kernel⟩
abbrev s_is_name : Stmt := topS 13
theorem sc_is_name : FnScope ["text", "letter"] ["text"] (defScope s_is_name) := ⟨rfl, rfl, rfl, by decide +kernel, rfl, by decide +kernel, by decide +kernel⟩
abbrev s_Signature_declare : Stmt := inClass (topS 14) 4
theorem sc_Signature_declare : FnScope ["self", "name", "arity", "commutative", "rank"] ["self", "name", "arity", "commutative"] (defScope s_Signature_declare) := ⟨rfl, rfl, rfl, by decide +kernel, rfl, by decide +kernel, by decide +kernel⟩
abbrev s_UnknownName___init : Stmt := inClass (topS 3) 0
theorem sc_UnknownName___init : FnScope ["self", "name"] ["self", "name"] (defScope s_UnknownName___init) := ⟨rfl, rfl, rfl, by decide +kernel, rfl, by decide +kernel, by decide +kernel⟩
abbrev s_Signature__require : Stmt := inClass (topS 14) 11
theorem sc_Signature__require : FnScope ["self", "name"] ["self", "name"] (defScope s_Signature__require) := ⟨rfl, rfl, rfl, by decide +kernel, rfl, by decide +kernel, by decide +kernel⟩
abbrev s_Signature_arity : Stmt := inClass (topS 14) 5
theorem sc_Signature_arity : FnScope ["self", "name"] ["self", "name"] (defScope s_Signature_arity) := ⟨rfl, rfl, rfl, by decide +kernel, rfl, by decide +kernel, by decide +kernel⟩
abbrev s_Signature_rank : Stmt := inClass (topS 14) 6
theorem sc_Signature_rank : FnScope ["self", "name"] ["self", "name"] (defScope s_Signature_rank) := ⟨rfl, rfl, rfl, by decide +kernel, rfl, by decide +kernel, by decide +kernel⟩
abbrev s_Signature_is_commutative : Stmt := inClass (topS 14) 7
theorem sc_Signature_is_commutative : FnScope ["self", "name"] ["self", "name"] (defScope s_Signature_is_commutative) := ⟨rfl, rfl, rfl, by decide +kernel, rfl, by decide +kernel, by decide +kernel⟩
abbrev s_Signature_constants : Stmt := inClass (topS 14) 9
theorem sc_Signature_constants : FnScope ["self", "name"] ["self"] (defScope s_Signature_constants) := ⟨rfl, rfl, rfl, by decide +kernel, rfl, by decide +kernel, by decide +kernel⟩
abbrev s_u_wall : Stmt := topS 0
theorem sc_u_wall : FnScope ["k"] ["k"] (defScope s_u_wall) := ⟨rfl, rfl, rfl, by decide +kernel, rfl, by decide +kernel, by decide +kernel⟩
abbrev s_Signature_check : Stmt := inClass (topS 14) 10
theorem sc_Signature_check : FnScope ["self", "term"] ["self", "term"] (defScope s_Signature_check) := ⟨rfl, rfl, rfl, by decide +kernel, rfl, by decide +kernel, by decide +kernel⟩
abbrev s_Signature_copy : Stmt := inClass (topS 14) 8
theorem sc_Signature_copy : FnScope ["self", "other", "name"] ["self"] (defScope s_Signature_copy) := ⟨rfl, rfl, rfl, by decide +kernel, rfl, by decide +kernel, by decide +kernel⟩
abbrev s_u_law_told : Stmt := topS 25
theorem sc_u_law_told : FnScope ["signature", "name", "arity", "flag", "e"] ["signature", "name", "arity", "flag"] (defScope s_u_law_told) := ⟨rfl, rfl, rfl, by decide +kernel, rfl, by decide +kernel, by decide +kernel⟩
abbrev s_u_law_mix : Stmt := topS 16
theorem sc_u_law_mix : FnScope ["cell", "number"] ["cell"] (defScope s_u_law_mix) := ⟨rfl, rfl, rfl, by decide +kernel, rfl, by decide +kernel, by decide +kernel⟩
abbrev s_u_law_number : Stmt := topS 17
theorem sc_u_law_number : FnScope ["cell", "first"] ["cell"] (defScope s_u_law_number) := ⟨rfl, rfl, rfl, by decide +kernel, rfl, by decide +kernel, by decide +kernel⟩
abbrev s_u_law_draw : Stmt := topS 20
theorem sc_u_law_draw : FnScope ["state", "many", "value"] ["state", "many"] (defScope s_u_law_draw) := ⟨rfl, rfl, rfl, by decide +kernel, rfl, by decide +kernel, by decide +kernel⟩
abbrev s_u_law_name : Stmt := topS 22
theorem sc_u_law_name : FnScope ["state", "known", "letters", "size", "word", "k", "at"] ["state", "known"] (defScope s_u_law_name) := ⟨rfl, rfl, rfl, by decide +kernel, rfl, by decide +kernel, by decide +kernel⟩
abbrev s_u_law_is_name : Stmt := topS 23
theorem sc_u_law_is_name : FnScope ["word", "char"] ["word"] (defScope s_u_law_is_name) := ⟨rfl, rfl, rfl, by decide +kernel, rfl, by decide +kernel, by decide +kernel⟩
abbrev s_u_law_due : Stmt := topS 24
theorem sc_u_law_due : FnScope ["accepted", "name", "arity", "flag", "entry"] ["accepted", "name", "arity", "flag"] (defScope s_u_law_due) := ⟨rfl, rfl, rfl, by decide +kernel, rfl, by decide +kernel, by decide +kernel⟩
abbrev s_u_law_unknown : Stmt := topS 26
theorem sc_u_law_unknown : FnScope ["signature", "name", "e"] ["signature", "name"] (defScope s_u_law_unknown) := ⟨rfl, rfl, rfl, by decide +kernel, rfl, by decide +kernel, by decide +kernel⟩
abbrev s_u_law_tells : Stmt := topS 18
theorem sc_u_law_tells : FnScope ["actual", "due"] ["actual", "due"] (defScope s_u_law_tells) := ⟨rfl, rfl, rfl, by decide +kernel, rfl, by decide +kernel, by decide +kernel⟩
abbrev s_u_law_agrees : Stmt := topS 27
theorem sc_u_law_agrees : FnScope ["signature", "accepted", "entry", "k", "name", "arity", "flag"] ["signature", "accepted"] (defScope s_u_law_agrees) := ⟨rfl, rfl, rfl, by decide +kernel, rfl, by decide +kernel, by decide +kernel⟩
abbrev s_u_law_is_integer : Stmt := topS 21
theorem sc_u_law_is_integer : FnScope ["actual"] ["actual"] (defScope s_u_law_is_integer) := ⟨rfl, rfl, rfl, by decide +kernel, rfl, by decide +kernel, by decide +kernel⟩
abbrev s_law : Stmt := topS 28
theorem sc_law : FnScope ["script", "state", "signatures", "books", "k", "which", "accepted", "name", "entry", "arity", "flag", "due", "actual", "copied", "before"] ["script"] (defScope s_law) := ⟨rfl, rfl, rfl, by decide +kernel, rfl, by decide +kernel, by decide +kernel⟩
structure Ad where
  a_Signature___iter : Addr
  d_Signature___iter : FuncData
  a_Signature___len : Addr
  d_Signature___len : FuncData
  a_u_law_state : Addr
  d_u_law_state : FuncData
  a_Signature___init : Addr
  d_Signature___init : FuncData
  a_Signature___contains : Addr
  d_Signature___contains : FuncData
  a_is_name : Addr
  d_is_name : FuncData
  a_Signature_declare : Addr
  d_Signature_declare : FuncData
  a_UnknownName___init : Addr
  d_UnknownName___init : FuncData
  a_Signature__require : Addr
  d_Signature__require : FuncData
  a_Signature_arity : Addr
  d_Signature_arity : FuncData
  a_Signature_rank : Addr
  d_Signature_rank : FuncData
  a_Signature_is_commutative : Addr
  d_Signature_is_commutative : FuncData
  a_Signature_constants : Addr
  d_Signature_constants : FuncData
  a_u_wall : Addr
  d_u_wall : FuncData
  a_Signature_check : Addr
  d_Signature_check : FuncData
  a_Signature_copy : Addr
  d_Signature_copy : FuncData
  a_u_law_told : Addr
  d_u_law_told : FuncData
  a_u_law_mix : Addr
  d_u_law_mix : FuncData
  a_u_law_number : Addr
  d_u_law_number : FuncData
  a_u_law_draw : Addr
  d_u_law_draw : FuncData
  a_u_law_name : Addr
  d_u_law_name : FuncData
  a_u_law_is_name : Addr
  d_u_law_is_name : FuncData
  a_u_law_due : Addr
  d_u_law_due : FuncData
  a_u_law_unknown : Addr
  d_u_law_unknown : FuncData
  a_u_law_tells : Addr
  d_u_law_tells : FuncData
  a_u_law_agrees : Addr
  d_u_law_agrees : FuncData
  a_u_law_is_integer : Addr
  d_u_law_is_integer : FuncData
  a_law : Addr
  d_law : FuncData
  c_HallError : Addr
  c_UnknownName : Addr
  c_InvalidName : Addr
  c_InvalidArity : Addr
  c_Duplicate : Addr
  c_TooLarge : Addr
  c_Signature : Addr
structure Tx (K : PySem.W.Frag) (mg : Str → Option Value) (A : Ad) : Prop where
  F_Signature___iter : Fun K "__iter__" "Signature.__iter__" s_Signature___iter A.a_Signature___iter A.d_Signature___iter
  b_Signature___iter : Binds K A.d_Signature___iter ["self"] []
  F_Signature___len : Fun K "__len__" "Signature.__len__" s_Signature___len A.a_Signature___len A.d_Signature___len
  b_Signature___len : Binds K A.d_Signature___len ["self"] []
  F_u_law_state : Fun K "_law_state" "_law_state" s_u_law_state A.a_u_law_state A.d_u_law_state
  b_u_law_state : Binds K A.d_u_law_state ["script"] []
  m_u_law_state : mg "_law_state" = some (.ref A.a_u_law_state)
  F_Signature___init : Fun K "__init__" "Signature.__init__" s_Signature___init A.a_Signature___init A.d_Signature___init
  b_Signature___init : Binds K A.d_Signature___init ["self"] []
  F_Signature___contains : Fun K "__contains__" "Signature.__contains__" s_Signature___contains A.a_Signature___contains A.d_Signature___contains
  b_Signature___contains : Binds K A.d_Signature___contains ["self", "name"] []
  F_is_name : Fun K "is_name" "is_name" s_is_name A.a_is_name A.d_is_name
  b_is_name : Binds K A.d_is_name ["text"] []
  m_is_name : mg "is_name" = some (.ref A.a_is_name)
  F_Signature_declare : FunD K "declare" "Signature.declare" (defArgs s_Signature_declare) (defBody s_Signature_declare) (defScope s_Signature_declare) [] [("commutative", .bl false)] A.a_Signature_declare A.d_Signature_declare
  b_Signature_declare : ∃ ds, Vals [(V.bl false : V)] ds ∧ Binds K A.d_Signature_declare ["self", "name", "arity", "commutative"] ds
  kb_Signature_declare : KBn K A.d_Signature_declare ["self", "name", "arity", "commutative"] 3 ["commutative"] (fun us ws => us ++ ws) (fun vs zs => vs ++ zs)
  F_UnknownName___init : Fun K "__init__" "UnknownName.__init__" s_UnknownName___init A.a_UnknownName___init A.d_UnknownName___init
  b_UnknownName___init : Binds K A.d_UnknownName___init ["self", "name"] []
  F_Signature__require : Fun K "_require" "Signature._require" s_Signature__require A.a_Signature__require A.d_Signature__require
  b_Signature__require : Binds K A.d_Signature__require ["self", "name"] []
  F_Signature_arity : Fun K "arity" "Signature.arity" s_Signature_arity A.a_Signature_arity A.d_Signature_arity
  b_Signature_arity : Binds K A.d_Signature_arity ["self", "name"] []
  F_Signature_rank : Fun K "rank" "Signature.rank" s_Signature_rank A.a_Signature_rank A.d_Signature_rank
  b_Signature_rank : Binds K A.d_Signature_rank ["self", "name"] []
  F_Signature_is_commutative : Fun K "is_commutative" "Signature.is_commutative" s_Signature_is_commutative A.a_Signature_is_commutative A.d_Signature_is_commutative
  b_Signature_is_commutative : Binds K A.d_Signature_is_commutative ["self", "name"] []
  F_Signature_constants : Fun K "constants" "Signature.constants" s_Signature_constants A.a_Signature_constants A.d_Signature_constants
  b_Signature_constants : Binds K A.d_Signature_constants ["self"] []
  F_u_wall : Fun K "_wall" "_wall" s_u_wall A.a_u_wall A.d_u_wall
  b_u_wall : Binds K A.d_u_wall ["k"] []
  m_u_wall : mg "_wall" = some (.ref A.a_u_wall)
  F_Signature_check : Fun K "check" "Signature.check" s_Signature_check A.a_Signature_check A.d_Signature_check
  b_Signature_check : Binds K A.d_Signature_check ["self", "term"] []
  F_Signature_copy : Fun K "copy" "Signature.copy" s_Signature_copy A.a_Signature_copy A.d_Signature_copy
  b_Signature_copy : Binds K A.d_Signature_copy ["self"] []
  F_u_law_told : Fun K "_law_told" "_law_told" s_u_law_told A.a_u_law_told A.d_u_law_told
  b_u_law_told : Binds K A.d_u_law_told ["signature", "name", "arity", "flag"] []
  m_u_law_told : mg "_law_told" = some (.ref A.a_u_law_told)
  F_u_law_mix : Fun K "_law_mix" "_law_mix" s_u_law_mix A.a_u_law_mix A.d_u_law_mix
  b_u_law_mix : Binds K A.d_u_law_mix ["cell"] []
  m_u_law_mix : mg "_law_mix" = some (.ref A.a_u_law_mix)
  F_u_law_number : Fun K "_law_number" "_law_number" s_u_law_number A.a_u_law_number A.d_u_law_number
  b_u_law_number : Binds K A.d_u_law_number ["cell"] []
  m_u_law_number : mg "_law_number" = some (.ref A.a_u_law_number)
  F_u_law_draw : Fun K "_law_draw" "_law_draw" s_u_law_draw A.a_u_law_draw A.d_u_law_draw
  b_u_law_draw : Binds K A.d_u_law_draw ["state", "many"] []
  m_u_law_draw : mg "_law_draw" = some (.ref A.a_u_law_draw)
  F_u_law_name : Fun K "_law_name" "_law_name" s_u_law_name A.a_u_law_name A.d_u_law_name
  b_u_law_name : Binds K A.d_u_law_name ["state", "known"] []
  m_u_law_name : mg "_law_name" = some (.ref A.a_u_law_name)
  F_u_law_is_name : Fun K "_law_is_name" "_law_is_name" s_u_law_is_name A.a_u_law_is_name A.d_u_law_is_name
  b_u_law_is_name : Binds K A.d_u_law_is_name ["word"] []
  m_u_law_is_name : mg "_law_is_name" = some (.ref A.a_u_law_is_name)
  F_u_law_due : Fun K "_law_due" "_law_due" s_u_law_due A.a_u_law_due A.d_u_law_due
  b_u_law_due : Binds K A.d_u_law_due ["accepted", "name", "arity", "flag"] []
  m_u_law_due : mg "_law_due" = some (.ref A.a_u_law_due)
  F_u_law_unknown : Fun K "_law_unknown" "_law_unknown" s_u_law_unknown A.a_u_law_unknown A.d_u_law_unknown
  b_u_law_unknown : Binds K A.d_u_law_unknown ["signature", "name"] []
  m_u_law_unknown : mg "_law_unknown" = some (.ref A.a_u_law_unknown)
  F_u_law_tells : Fun K "_law_tells" "_law_tells" s_u_law_tells A.a_u_law_tells A.d_u_law_tells
  b_u_law_tells : Binds K A.d_u_law_tells ["actual", "due"] []
  m_u_law_tells : mg "_law_tells" = some (.ref A.a_u_law_tells)
  F_u_law_agrees : Fun K "_law_agrees" "_law_agrees" s_u_law_agrees A.a_u_law_agrees A.d_u_law_agrees
  b_u_law_agrees : Binds K A.d_u_law_agrees ["signature", "accepted"] []
  m_u_law_agrees : mg "_law_agrees" = some (.ref A.a_u_law_agrees)
  F_u_law_is_integer : Fun K "_law_is_integer" "_law_is_integer" s_u_law_is_integer A.a_u_law_is_integer A.d_u_law_is_integer
  b_u_law_is_integer : Binds K A.d_u_law_is_integer ["actual"] []
  m_u_law_is_integer : mg "_law_is_integer" = some (.ref A.a_u_law_is_integer)
  F_law : Fun K "law" "law" s_law A.a_law A.d_law
  b_law : Binds K A.d_law ["script"] []
  m_law : mg "law" = some (.ref A.a_law)
  n_ValueError : mg "ValueError" = none
  n_all : mg "all" = none
  n_bool : mg "bool" = none
  n_int : mg "int" = none
  n_isinstance : mg "isinstance" = none
  n_iter : mg "iter" = none
  n_len : mg "len" = none
  n_list : mg "list" = none
  n_range : mg "range" = none
  c_MAX_OPERATIONS : ∃ t, mg "MAX_OPERATIONS" = some (.int 12 t)
  c_MAX_ARITY : ∃ t, mg "MAX_ARITY" = some (.int 3 t)
  c_MAX_NAME : ∃ t, mg "MAX_NAME" = some (.int 8 t)
  c_LETTERS : ∃ t, mg "LETTERS" = some (.str "abcdefghijklmnopqrstuvwxyz" t)
  E_HallError : ErrC K mg "HallError" A.c_HallError
  E_UnknownName : ErrI K mg "UnknownName" A.c_UnknownName A.a_UnknownName___init
  E_InvalidName : ErrC K mg "InvalidName" A.c_InvalidName
  E_InvalidArity : ErrC K mg "InvalidArity" A.c_InvalidArity
  E_Duplicate : ErrC K mg "Duplicate" A.c_Duplicate
  E_TooLarge : ErrC K mg "TooLarge" A.c_TooLarge
  K_Signature : Cls K A.c_Signature
  M_Signature : Mk K A.c_Signature A.a_Signature___init
  g_Signature : mg "Signature" = some (.ref A.c_Signature)
  N_Signature__names : NoAttr K A.c_Signature "_names"
  N_Signature__arities : NoAttr K A.c_Signature "_arities"
  N_Signature__ranks : NoAttr K A.c_Signature "_ranks"
  N_Signature__flags : NoAttr K A.c_Signature "_flags"
  H_Signature___iter : Meth K A.c_Signature "__iter__" A.a_Signature___iter
  O_Signature___iter : ItrC K A.c_Signature A.a_Signature___iter
  H_Signature___len : Meth K A.c_Signature "__len__" A.a_Signature___len
  O_Signature___len : LnC K A.c_Signature A.a_Signature___len
  H_Signature___contains : Meth K A.c_Signature "__contains__" A.a_Signature___contains
  O_Signature___contains : InC K A.c_Signature A.a_Signature___contains
  H_Signature_declare : Meth K A.c_Signature "declare" A.a_Signature_declare
  H_Signature__require : Meth K A.c_Signature "_require" A.a_Signature__require
  H_Signature_arity : Meth K A.c_Signature "arity" A.a_Signature_arity
  H_Signature_rank : Meth K A.c_Signature "rank" A.a_Signature_rank
  H_Signature_is_commutative : Meth K A.c_Signature "is_commutative" A.a_Signature_is_commutative
  H_Signature_constants : Meth K A.c_Signature "constants" A.a_Signature_constants
  H_Signature_check : Meth K A.c_Signature "check" A.a_Signature_check
  H_Signature_copy : Meth K A.c_Signature "copy" A.a_Signature_copy
  nf_name_UnknownName : PySem.W.findIn K (.ref A.c_UnknownName) "name" = some none
  kit_InvalidName_HallError : PySem.W.kitOne K (.ref A.c_InvalidName) (.ref A.c_HallError) = some true
  kit_InvalidName_InvalidArity : PySem.W.kitOne K (.ref A.c_InvalidName) (.ref A.c_InvalidArity) = some false
  kit_InvalidArity_ValueError : PySem.W.kitOne K (.ref A.c_InvalidArity) (.type "ValueError") = some true
  kit_InvalidArity_Duplicate : PySem.W.kitOne K (.ref A.c_InvalidArity) (.ref A.c_Duplicate) = some false
  kit_Duplicate_TooLarge : PySem.W.kitOne K (.ref A.c_Duplicate) (.ref A.c_TooLarge) = some false
  sub_R_N : PySem.W.subIn K (.ref A.c_InvalidArity) (.ref A.c_InvalidName) = some false
  sub_D_N : PySem.W.subIn K (.ref A.c_Duplicate) (.ref A.c_InvalidName) = some false
  sub_D_R : PySem.W.subIn K (.ref A.c_Duplicate) (.ref A.c_InvalidArity) = some false
  sub_L_N : PySem.W.subIn K (.ref A.c_TooLarge) (.ref A.c_InvalidName) = some false
  sub_L_R : PySem.W.subIn K (.ref A.c_TooLarge) (.ref A.c_InvalidArity) = some false
  sub_L_D : PySem.W.subIn K (.ref A.c_TooLarge) (.ref A.c_Duplicate) = some false
section
variable {P : Program} {w : World} {K : PySem.W.Frag} {mg : Str → Option Value} {base : Heap} {A : Ad}
/-! Signature.__iter__ -/
def sp_Signature___iter (C : Addr) : Sp := fun vs H Q _ => ∃ (p dx n d1 d2 d3 : Addr) (es : List Opn), vs = [.ref p] ∧ SigAt C H p dx n d1 d2 d3 es ∧ ∀ it, H it = none → Q (.ref it) (upd H it (ItO n it 0))
theorem ok_Signature___iter (T : Tx K mg A) : FnOk P w K mg base CX0 1 A.a_Signature___iter A.d_Signature___iter ["self"] (sp_Signature___iter A.c_Signature) := by

  refine T.F_Signature___iter.ok sc_Signature___iter (fun vs H Q E h => ?_) (fun cdv Ar outer s0 H vs Q E hr h => ?_)
  · obtain ⟨p, dx, n, d1, d2, d3, es, rfl, _⟩ := h; rfl
  obtain ⟨p, dx, n, d1, d2, d3, es, rfl, sg, q⟩ := h
  refine ⟨_, (pss_one (ps_ret (pe_callB ItX.call_iterN (by rfl) T.n_iter (by decide +kernel) (pa_cons (pe_fld (pv 0) rfl) pa_nil)))), ?_⟩
  walk_at "rd"
  refine ⟨p, _, dx, _, _, rfl, sg.ob, T.K_Signature, T.N_Signature__names, sg_names _ _ _ _, ?_⟩
  walk_at "rd"
  refine ⟨n, _, rfl, SqL.of sg.nl, fun it hn _ => ?_⟩
  walk_at "rd"
  exact q it hn

/-! Signature.__len__ -/
def sp_Signature___len (C : Addr) : Sp := fun vs H Q _ => ∃ (p dx n d1 d2 d3 : Addr) (es : List Opn), vs = [.ref p] ∧ SigAt C H p dx n d1 d2 d3 es ∧ Q (.int (es.length : Int)) H
theorem ok_Signature___len (T : Tx K mg A) : FnOk P w K mg base CX0 1 A.a_Signature___len A.d_Signature___len ["self"] (sp_Signature___len A.c_Signature) := by

  refine T.F_Signature___len.ok sc_Signature___len (fun vs H Q E h => ?_) (fun cdv Ar outer s0 H vs Q E hr h => ?_)
  · obtain ⟨p, dx, n, d1, d2, d3, es, rfl, _⟩ := h; rfl
  obtain ⟨p, dx, n, d1, d2, d3, es, rfl, sg, q⟩ := h
  refine ⟨_, (pss_one (ps_ret (pe_callB (r := rLenS K) j_len (by rfl) T.n_len PySem.boot_len (pa_cons (pe_fld (pv 0) rfl) pa_nil)))), ?_⟩
  walk_at "rd"
  refine ⟨p, _, dx, _, _, rfl, sg.ob, T.K_Signature, T.N_Signature__names, sg_names _ _ _ _, ?_⟩
  walk_at "rd"
  refine ⟨n, _, rfl, .inl (SqL.of sg.nl), ?_⟩
  rw [show ((es.map (·.nm)).map V.str).length = es.length by rw [List.length_map, List.length_map]]
  walk_at "rd"
  exact q

/-! _law_state -/
def sp_u_law_state (K : PySem.W.Frag) : Sp := fun vs H Q _ => ∃ (a : Addr) (ns : List Int), vs = [.ref a] ∧ SqL K H a (ns.map V.int) ∧ ns.length ≤ 63 ∧ ∀ s l H', Same H H' → H s = none → H l = none → St H' s l → Q (.ref s) H'
theorem ok_u_law_state (T : Tx K mg A) : FnOk P w K mg base CX0 1 A.a_u_law_state A.d_u_law_state ["script"] (sp_u_law_state K) := by
  refine T.F_u_law_state.ok sc_u_law_state (fun vs H Q E h => ?_) (fun cdv Ar outer s0 H vs Q E hr h => ?_)
  · obtain ⟨a, ns, rfl, _⟩ := h; rfl
  obtain ⟨a, ns, rfl, hS, h63, q⟩ := h
  refine ⟨_, (pss_one (ps_ret (pe_lst (pa_cons pe_int (pa_cons (pe_callTy (r := rListS K) j_list (by rfl) T.n_list boot_list (pa_cons (pv 0) pa_nil)) (pa_cons pe_int (pa_cons (pe_op op_add pe_int (pe_callB (r := rLenS K) j_len (by rfl) T.n_len PySem.boot_len (pa_cons (pv 0) pa_nil))) pa_nil))))))), ?_⟩
  walk_at "rd"
  refine ⟨a, _, rfl, .inl hS, ?_⟩
  first | intro l n1 | refine fun l n1 => ?_
  generalize ehn : upd H l _ = H1
  have s1 := J.al_same n1 ehn
  have h1 := J.al_at ehn
  clear ehn
  walk_at "rd"
  refine ⟨a, _, rfl, .inl (s1.seq hS), ?_⟩
  walk_at "rd"
  refine ⟨by show 4 ≤ sizeLine; decide, ?_⟩
  first | intro s n2 | refine fun s n2 => ?_
  generalize ehn : upd H1 s _ = H2
  have s2 := J.al_same n2 ehn
  have h2 := J.al_at ehn
  clear ehn
  refine q s l H2 (s1.trans s2) (s1.free n2) n1 ⟨0, 0, _, ns, h2, s2 _ _ h1, Int.le_refl _, Int.natCast_nonneg _, Int.le_refl _, ?_, ?_, h63⟩
  · rw [List.length_map]; omega
  · rw [List.length_map]; omega

/-! Signature.__init__ -/
def sp_Signature___init (C : Addr) : Sp := fun vs H Q _ => ∃ (p dx : Addr), vs = [.ref p] ∧ H p = some (.ins C dx []) ∧ ∀ n d1 d2 d3 H', H n = none → H d1 = none → H d2 = none → H d3 = none → n ≠ p → d1 ≠ p → d2 ≠ p → d3 ≠ p → SigAt C H' p dx n d1 d2 d3 [] → But p H H' → Q .non H'
theorem ok_Signature___init (T : Tx K mg A) : FnOk P w K mg base CX0 1 A.a_Signature___init A.d_Signature___init ["self"] (sp_Signature___init A.c_Signature) := by

  refine T.F_Signature___init.ok sc_Signature___init (fun vs H Q E h => ?_) (fun cdv Ar outer s0 H vs Q E hr h => ?_)
  · obtain ⟨p, dx, rfl, _⟩ := h; rfl
  obtain ⟨p, dx, rfl, hp, q⟩ := h
  refine ⟨_, (pss_cons (ps_fld (pv 0) (pe_lst pa_nil) rfl)
    (pss_cons (ps_fld (pv 0) pe_dnewK rfl)
    (pss_cons (ps_fld (pv 0) pe_dnewK rfl)
    (pss_one (ps_fld (pv 0) pe_dnewK rfl))))), ?_⟩
  walk_at "rd"
  dsimp only [tSeq, sFld, tLst, tNil]
  refine ⟨Nat.zero_le _, fun n nn => ?_⟩
  generalize ehn : upd H n _ = H1
  have s1 := J.al_same nn ehn
  have h1 := J.al_at ehn
  clear ehn
  refine ⟨_, rfl, p, _, dx, [], rfl, s1 _ _ hp, T.K_Signature, T.N_Signature__names, (by show 0 < 1000; decide), ?_⟩
  generalize ehn : upd H1 p _ = H2
  have b2 := J.al_but ehn
  have h2 := J.al_at ehn
  clear ehn
  have hh : H2 p = some (.ins A.c_Signature dx [("_names", .ref n)]) := h2
  have npn : n ≠ p := fun z => by rw [z, hp] at nn; cases nn
  have k1 : H2 n = some (.lst []) := b2 _ _ h1 npn
  have bb : But p H H2 := (but_same s1).trans b2
  dsimp only [tDNewK]
  refine fun d1 m3 => ?_
  generalize ehn : upd H2 d1 _ = Y3
  have s3 := J.al_same m3 ehn
  have e3 := J.al_at ehn
  clear ehn
  have x3 : d1 ≠ p := fun z => by rw [z, hh] at m3; cases m3
  have z3 : H d1 = none := by cases e : H d1 with | none => rfl | some o => rw [bb _ _ e x3] at m3; cases m3
  have hq := s3 _ _ hh
  clear hh
  refine ⟨_, rfl, p, _, dx, _, rfl, hq, T.K_Signature, T.N_Signature__arities, (by show 1 < 1000; decide), ?_⟩
  rw [sg_f2]
  generalize ehn : upd Y3 p _ = H3
  have b3 := J.al_but ehn
  have hh := J.al_at ehn
  clear ehn
  have bb := bb.trans ((but_same s3).trans b3)
  have k1 := b3 _ _ (s3 _ _ k1) npn
  have e3 := b3 _ _ e3 x3
  refine fun d2 m4 => ?_
  generalize ehn : upd H3 d2 _ = Y4
  have s4 := J.al_same m4 ehn
  have e4 := J.al_at ehn
  clear ehn
  have y12 : d1 ≠ d2 := fun z => by rw [← z, e3] at m4; cases m4
  have x4 : d2 ≠ p := fun z => by rw [z, hh] at m4; cases m4
  have z4 : H d2 = none := by cases e : H d2 with | none => rfl | some o => rw [bb _ _ e x4] at m4; cases m4
  have hq := s4 _ _ hh
  clear hh
  refine ⟨_, rfl, p, _, dx, _, rfl, hq, T.K_Signature, T.N_Signature__ranks, (by show 2 < 1000; decide), ?_⟩
  rw [sg_f3]
  generalize ehn : upd Y4 p _ = H4
  have b4 := J.al_but ehn
  have hh := J.al_at ehn
  clear ehn
  have bb := bb.trans ((but_same s4).trans b4)
  have k1 := b4 _ _ (s4 _ _ k1) npn
  have e3 := b4 _ _ (s4 _ _ e3) x3
  have e4 := b4 _ _ e4 x4
  refine fun d3 m5 => ?_
  generalize ehn : upd H4 d3 _ = Y5
  have s5 := J.al_same m5 ehn
  have e5 := J.al_at ehn
  clear ehn
  have y13 : d1 ≠ d3 := fun z => by rw [← z, e3] at m5; cases m5
  have y23 : d2 ≠ d3 := fun z => by rw [← z, e4] at m5; cases m5
  have x5 : d3 ≠ p := fun z => by rw [z, hh] at m5; cases m5
  have z5 : H d3 = none := by cases e : H d3 with | none => rfl | some o => rw [bb _ _ e x5] at m5; cases m5
  have hq := s5 _ _ hh
  clear hh
  refine ⟨_, rfl, p, _, dx, _, rfl, hq, T.K_Signature, T.N_Signature__flags, (by show 3 < 1000; decide), ?_⟩
  rw [sg_f4]
  generalize ehn : upd Y5 p _ = H5
  have b5 := J.al_but ehn
  have hh := J.al_at ehn
  clear ehn
  have bb := bb.trans ((but_same s5).trans b5)
  have k1 := b5 _ _ (s5 _ _ k1) npn
  have e3 := b5 _ _ (s5 _ _ e3) x3
  have e4 := b5 _ _ (s5 _ _ e4) x4
  have e5 := b5 _ _ e5 x5
  exact q n d1 d2 d3 H5 nn z3 z4 z5 npn x3 x4 x5 ⟨hh, k1, e3, e4, e5, y12, y13, y23, List.nodup_nil⟩ bb

/-! Signature.__contains__ -/
def sp_Signature___contains (C : Addr) : Sp := fun vs H Q _ => ∃ (p dx n d1 d2 d3 : Addr) (es : List Opn) (f : Str), vs = [.ref p, .str f] ∧ SigAt C H p dx n d1 d2 d3 es ∧ ∀ b : Bool, (b = true ↔ f ∈ es.map (·.nm)) → Q (.bl b) H
theorem ok_Signature___contains (T : Tx K mg A) : FnOk P w K mg base CX0 1 A.a_Signature___contains A.d_Signature___contains ["self", "name"] (sp_Signature___contains A.c_Signature) := by

  refine T.F_Signature___contains.ok sc_Signature___contains (fun vs H Q E h => ?_) (fun cdv Ar outer s0 H vs Q E hr h => ?_)
  · obtain ⟨p, dx, n, d1, d2, d3, es, f, rfl, _⟩ := h; rfl
  obtain ⟨p, dx, n, d1, d2, d3, es, f, rfl, sg, q⟩ := h
  refine ⟨_, (pss_one (ps_ret (pe_cmp (pc_din (hu_of hr) (pv 1) (pe_fld (pv 0) rfl)) rfl))), ?_⟩
  walk_at "rd"
  refine ⟨p, _, dx, _, _, rfl, sg.ob, T.K_Signature, T.N_Signature__ranks, sg_ranks _ _ _ _, ?_⟩
  refine ⟨d2, _, rfl, DGet.k (k := Sum.inr f) sg.a2, ?_⟩
  walk_at "rd"
  refine q _ ?_
  cases e : arOf es f with
  | none => rw [kvR_none (arOf_none e)]; exact ⟨(fun z => nomatch z), fun z => absurd z (arOf_none e)⟩
  | some a =>
    obtain ⟨j, x, gj, e1, e2⟩ := arOf_some e
    rw [← e1, kvR_some sg.nd gj]
    exact ⟨fun _ => List.mem_map.mpr ⟨x, List.mem_of_getElem? gj, rfl⟩, fun _ => rfl⟩

/-! is_name -/
def sp_is_name : Sp := fun vs H Q _ => ∃ (z : Str), vs = [.str z] ∧ z.length ≤ 1000 ∧ ∀ b H', Same H H' → (b = true ↔ (1 ≤ z.length ∧ z.length ≤ 8 ∧ Low z)) → Q (.bl b) H'
theorem ok_is_name (T : Tx K mg A) : FnOk P w K mg base CX0 (1) A.a_is_name A.d_is_name ["text"] sp_is_name := by
  obtain ⟨tk_LETTERS, c_LETTERS⟩ := T.c_LETTERS
  obtain ⟨tk_MAX_NAME, c_MAX_NAME⟩ := T.c_MAX_NAME
  refine T.F_is_name.ok sc_is_name (fun vs H Q E h => ?_) (fun cdv Ar outer s0 H vs Q E hr h => ?_)
  · obtain ⟨z, rfl, _⟩ := h; rfl
  obtain ⟨z, rfl, hz, q⟩ := h
  refine ⟨_, (pss_one (ps_ret (pe_and (pe_chain op_le op_le pe_int (pe_callB call_len_str (by rfl) T.n_len PySem.boot_len (pa_cons (pv 0) pa_nil)) (pe_glob (v := .int 8) rfl c_MAX_NAME ⟨_, rfl⟩)) (pe_one (pe_callB (r := rAll K) (cr_all rfl) (by rfl) T.n_all boot_all (pa_cons (pe_lc (own := [("letter", 1)]) (by rfl) sc_is_name.nd (pi_str (pv 0)) (blkOk_by (own := [("letter", 1)]) (N := ["text", "letter"]) (sc := defScope s_is_name) (by decide +kernel)) (fun _ _ _ _ _ => (pg_name (i := 1) sc_is_name.nd rfl (Or.inl rfl))) (fun _ _ _ _ _ => pts_nil) (fun _ _ _ _ _ => (pe_cmpR op_in_sign (pv 1) (pe_glob (v := .str "abcdefghijklmnopqrstuvwxyz") rfl c_LETTERS ⟨_, rfl⟩) rfl))) pa_nil)))))), ?_⟩
  walk_at "rd"
  refine ⟨Nat.le_trans hz (by decide), ?_⟩
  walk_at "rd"
  refine ifD (fun e1 => ?_) (fun e1 => ?_)
  · walk_at "rd"
    refine ifD (fun e2 => ?_) (fun e2 => ?_)
    · walk_at "rd"
      refine fun D hD => lc_it (walk_str (z := z)) (fun i H' => H' D = some (.lst ((((cods z).take i).map fun c => decide (c ∈ cods ("abcdefghijklmnopqrstuvwxyz" : Str))).map V.bl)) ∧ Same H H') ?_ ?_ ?_ ?_
      · exact ⟨upd_same, same_new hD _⟩
      · exact fun _ _ _ _ => trivial
      · rintro i x H1 H2 hi ⟨hp, k⟩ ⟨rfl, c, gc, rfl⟩
        refine ⟨rfl, ?_⟩
        walk_at "rd"
        refine ⟨_, hp, ?_, ?_, same_mut k hD _⟩
        · rw [List.length_map, List.length_map, List.length_take]
          exact Nat.lt_of_le_of_lt (show min i (cods z).length ≤ 1000 by rw [← len_tl]; omega) (by decide)
        · have gc : (cods z)[i]? = some c := by rw [Array.getElem?_toList]; exact gc
          rw [upd_same, list_take_succ gc, List.map_append, List.map_append]; rfl
      · rintro H1 ⟨hp, k⟩
        walk_at "rd"
        rw [show z.cps.size = (cods z).length from (len_tl z), List.take_length] at hp
        refine ⟨D, _, rfl, SqL.of hp, ?_⟩
        refine q _ H1 k ?_
        rw [List.all_map, List.all_eq_true]
        refine ⟨fun h => ⟨by omega, by omega, fun c hc => ?_⟩, fun h c hc => ?_⟩
        · have := of_decide_eq_true (h c hc)
          exact abc_in c this
        · exact decide_eq_true (abc_of c (h.2.2 c hc))
    · walk_at "rd"
      exact q false H (Same.refl _) ⟨(fun z => nomatch z), fun h => absurd h.2.1 (by omega)⟩
  · walk_at "rd"
    exact q false H (Same.refl _) ⟨(fun z => nomatch z), fun h => absurd h.1 (by omega)⟩

/-! Signature.declare -/
def NmOk (nm : Str) : Prop := 1 ≤ nm.length ∧ nm.length ≤ 8 ∧ Low nm
def ArOk (ar : Int) (cm : Bool) : Prop := 0 ≤ ar ∧ ar ≤ 3 ∧ (cm = true → ar = 2)
def RefAt (H : Hp) (v : V) (w : Str) : Prop := ∃ a, v = .ref a ∧ H a = some (.tup [.str "refused", .str w])
def BkAt (H : Hp) (b : Addr) (es : List Opn) : Prop := ∃ as : List Addr, H b = some (.lst (as.map V.ref)) ∧ as.length = es.length ∧ ∀ (k : Nat) (e : Opn) (a : Addr), es[k]? = some e → as[k]? = some a → H a = some (.tup [.str e.nm, .int (e.ar : Int), .bl e.cm])
def sp_Signature_declare (C N R D L : Addr) : Sp := fun vs H Q E => ∃ (p dx n d1 d2 d3 : Addr) (es : List Opn) (nm : Str) (ar : Int) (cm : Bool), vs = [.ref p, .str nm, .int ar, .bl cm] ∧ SigAt C H p dx n d1 d2 d3 es ∧ es.length ≤ 12 ∧ nm.length ≤ 1000 ∧
  (¬ NmOk nm → ∀ H', Same H H' → E (.ref N) none H') ∧
  (NmOk nm → ¬ ArOk ar cm → ∀ H', Same H H' → E (.ref R) none H') ∧
  (NmOk nm → ArOk ar cm → nm ∈ es.map (·.nm) → ∀ H', Same H H' → E (.ref D) none H') ∧
  (NmOk nm → ArOk ar cm → nm ∉ es.map (·.nm) → es.length = 12 → ∀ H', Same H H' → E (.ref L) none H') ∧
  (NmOk nm → ArOk ar cm → nm ∉ es.map (·.nm) → es.length < 12 → ∀ H', SigAt C H' p dx n d1 d2 d3 (es ++ [⟨nm, ar.toNat, cm⟩]) → (∀ a o, H a = some o → a ≠ n → a ≠ d1 → a ≠ d2 → a ≠ d3 → H' a = some o) → Q (.int (es.length : Int)) H')
theorem ok_Signature_declare (T : Tx K mg A) : FnOk P w K mg base (L2.CX P w) 4 A.a_Signature_declare A.d_Signature_declare ["self", "name", "arity", "commutative"] (sp_Signature_declare A.c_Signature A.c_InvalidName A.c_InvalidArity A.c_Duplicate A.c_TooLarge) := by
  have G_is_name := ok_is_name (P := P) (w := w) (base := base) T
  obtain ⟨tk_MAX_ARITY, c_MAX_ARITY⟩ := T.c_MAX_ARITY
  obtain ⟨tk_MAX_OPERATIONS, c_MAX_OPERATIONS⟩ := T.c_MAX_OPERATIONS
  refine T.F_Signature_declare.ok sc_Signature_declare (fun vs H Q E h => ?_) (fun cdv Ar outer s0 H vs Q E hr h => ?_)
  · obtain ⟨p, dx, n, d1, d2, d3, es, nm, ar, cm, rfl, _⟩ := h; rfl
  obtain ⟨p, dx, n, d1, d2, d3, es, nm, ar, cm, rfl, sg0, l12, l1000, qN, qR, qD, qL, q⟩ := h
  refine ⟨_, (pss_cons (ps_if (pt_not (pt_truth (pe_call G_is_name (hr.mono (by omega)) rfl T.m_is_name T.F_is_name.kp T.b_is_name .nil pass0 (pa_cons (pv 1) pa_nil)) (by intro _; rfl))) (pss_one (ps_raise rfl (takes_of rfl rfl rfl rfl) (pmk_own0 PySem.F.excBase_ValueError T.E_InvalidName.xC T.E_InvalidName.gC T.E_InvalidName.kC (raises_own T.E_InvalidName.bC T.E_InvalidName.tC) rfl))) pss_nil)
    (pss_cons (ps_if (PW.pt (pw_or (pt_cmpR op_lt (pv 2) pe_int (nomark _)) (pw_or (pt_cmpR op_gt (pv 2) (pe_glob (v := .int 3) rfl c_MAX_ARITY ⟨_, rfl⟩) (nomark _)) (pw_or1 (PW.pt (pw_and (pt_val (pv 3)) (pw_and1 (pt_cmpR op_ne (pv 2) pe_int (nomark _))))))))) (pss_one (ps_raise rfl (takes_of rfl rfl rfl rfl) (pmk_own0 PySem.F.excBase_ValueError T.E_InvalidArity.xC T.E_InvalidArity.gC T.E_InvalidArity.kC (raises_own T.E_InvalidArity.bC T.E_InvalidArity.tC) rfl))) pss_nil)
    (pss_cons (ps_if (pt_cmp (pc_din (hu_of hr) (pv 1) (pe_fld (pv 0) rfl))) (pss_one (ps_raise rfl (takes_of rfl rfl rfl rfl) (pmk_own0 PySem.F.excBase_ValueError T.E_Duplicate.xC T.E_Duplicate.gC T.E_Duplicate.kC (raises_own T.E_Duplicate.bC T.E_Duplicate.tC) rfl))) pss_nil)
    (pss_cons (ps_if (pt_cmpR op_ge (pe_callB (r := rLenS K) j_len (by rfl) T.n_len PySem.boot_len (pa_cons (pe_fld (pv 0) rfl) pa_nil)) (pe_glob (v := .int 12) rfl c_MAX_OPERATIONS ⟨_, rfl⟩) (nomark _)) (pss_one (ps_raise rfl (takes_of rfl rfl rfl rfl) (pmk_own0 PySem.F.excBase_ValueError T.E_TooLarge.xC T.E_TooLarge.gC T.E_TooLarge.kC (raises_own T.E_TooLarge.bC T.E_TooLarge.tC) rfl))) pss_nil)
    (pss_cons (ps_set (i := 4) sc_Signature_declare.nd rfl (Or.inl rfl) (pe_callB (r := rLenS K) j_len (by rfl) T.n_len PySem.boot_len (pa_cons (pe_fld (pv 0) rfl) pa_nil)))
    (pss_cons (ps_expr (pe_bm PySem.F.plainAttrs_list PySem.F.slot_list_append PySem.F.type_list_append mt_append (pe_fld (pv 0) rfl) (pa_cons (pv 1) pa_nil)))
    (pss_cons (ps_dput (hu_of hr) (pe_fld (pv 0) rfl) (pv 1) (pv 2) rfl)
    (pss_cons (ps_dput (hu_of hr) (pe_fld (pv 0) rfl) (pv 1) (pv 4) rfl)
    (pss_cons (ps_dput (hu_of hr) (pe_fld (pv 0) rfl) (pv 1) (pv 3) rfl)
    (pss_one (ps_ret (pv 4)))))))))))), ?_⟩
  walk_at "rd"
  refine ⟨l1000, fun b H1 s1 hb => ?_⟩
  have sg := sg0.same s1
  walk_at "rd"
  cases b with
  | false =>
    have nn : ¬ NmOk nm := fun z => nomatch hb.mpr z
    exact (if_pos rfl).mpr (qN nn H1 s1)
  | true =>
  have ok1 : NmOk nm := hb.mp rfl
  obtain ⟨l1, l8, low⟩ := id ok1
  refine (if_neg (by decide)).mpr ?_
  dsimp only [tNext]
  refine seq_join (t := tIfS _ _ _) (fun σ' H' => σ' = [some (.ref p), some (.str nm), some (.int ar), some (.bl cm), none] ∧ H' = H1 ∧ ArOk ar cm) ?_ (fun N cont => ?_)
  rotate_left
  · walk_at "rd"
    refine ifD (fun c => ?_) fun c1 => ?_
    · exact qR ok1 (fun z => absurd z.1 (by omega)) H1 s1
    walk_at "rd"
    refine ifD (fun c => ?_) fun c2 => ?_
    · exact qR ok1 (fun z => absurd z.2.1 (by omega)) H1 s1
    walk_at "rd"
    cases cm with
    | true =>
      dsimp only
      rw [if_pos rfl]
      walk_at "rd"
      refine ifNe (fun c4 => ?_) (fun c4 => ?_)
      · exact qR ok1 (fun z => absurd (z.2.2 rfl) c4) H1 s1
      · exact cont _ _ ⟨rfl, rfl, by omega, by omega, fun _ => c4⟩
    | false =>
      dsimp only
      exact (if_neg (fun z => nomatch z)).mpr (cont _ _ ⟨rfl, rfl, by omega, by omega, fun z => nomatch z⟩)
  rintro σ' H1' ⟨rfl, e1, aok⟩
  have e1 := e1.symm
  subst e1
  obtain ⟨a, rfl⟩ := Int.eq_ofNat_of_zero_le aok.1
  walk_at "rd"
  refine ⟨p, _, dx, _, _, rfl, sg.ob, T.K_Signature, T.N_Signature__ranks, sg_ranks _ _ _ _, ?_⟩
  refine ⟨d2, _, rfl, DGet.k (k := Sum.inr nm) sg.a2, ?_⟩
  by_cases nin : nm ∈ es.map (·.nm)
  · cases e : arOf es nm with
    | none => exact absurd nin (arOf_none e)
    | some a0 =>
      obtain ⟨j, x, gj, e1, e2⟩ := arOf_some e
      rw [← e1, kvR_some sg.nd gj]
      walk_at "rd"
      exact qD ok1 aok nin H1 s1
  rw [kvR_none nin]
  walk_at "rd"
  refine ⟨p, _, dx, _, _, rfl, sg.ob, T.K_Signature, T.N_Signature__names, sg_names _ _ _ _, ?_⟩
  walk_at "rd"
  have ln : ((es.map (·.nm)).map V.str).length = es.length := by rw [List.length_map, List.length_map]
  refine ⟨n, _, rfl, .inl (SqL.of sg.nl), ?_⟩
  rw [ln]
  walk_at "rd"
  refine ifD (fun c => qL ok1 aok nin (by omega) H1 s1) fun c5 => ?_
  have l12 : es.length < 12 := by omega
  walk_at "rd"
  refine ⟨p, _, dx, _, _, rfl, sg.ob, T.K_Signature, T.N_Signature__names, sg_names _ _ _ _, ?_⟩
  walk_at "rd"
  refine ⟨n, _, rfl, .inl (SqL.of sg.nl), ?_⟩
  rw [ln]
  dsimp only [gName]
  walk_at "rd"
  refine ⟨p, _, dx, _, _, rfl, sg.ob, T.K_Signature, T.N_Signature__names, sg_names _ _ _ _, ?_⟩
  walk_at "rd"
  refine ⟨.inl ⟨rfl, _, SqL.of sg.nl⟩, _, rfl, n, _, _, rfl, rfl, sg.nl, by rw [ln, sizeLine_eq]; omega, ?_⟩
  have ne : ∀ {a b : Addr} {x y : HO}, H1 a = some x → H1 b = some y → x ≠ y → a ≠ b := fun ha hb h z => by
    subst z
    rw [ha] at hb
    exact h (Option.some.inj hb)
  have pn : p ≠ n := ne sg.ob sg.nl (by simp)
  have p1 : p ≠ d1 := ne sg.ob sg.a1 (by simp)
  have p2 : p ≠ d2 := ne sg.ob sg.a2 (by simp)
  have p3 : p ≠ d3 := ne sg.ob sg.a3 (by simp)
  have n1 : n ≠ d1 := ne sg.nl sg.a1 (by simp)
  have n2 : n ≠ d2 := ne sg.nl sg.a2 (by simp)
  have n3 : n ≠ d3 := ne sg.nl sg.a3 (by simp)
  generalize ehn : upd H1 n _ = H2
  have b2 := J.al_but ehn
  have h2 := J.al_at ehn
  clear ehn
  have ob2 := b2 _ _ sg.ob pn
  have a2 := b2 _ _ sg.a1 n1.symm
  walk_at "rd"
  refine ⟨p, _, dx, _, _, rfl, ob2, T.K_Signature, T.N_Signature__arities, sg_arities _ _ _ _, ?_⟩
  walk_at "rd"
  refine ⟨d1, _, rfl, .inl ⟨kvA es, .inr nm, a2, rfl, by rw [show (kvA es).length = es.length from List.length_map .., sizeLine_eq]; omega, rfl⟩, ?_⟩
  rw [putA (es := es) (e := ⟨nm, a, cm⟩) nin]
  generalize ehn : upd H2 d1 _ = H3
  have b3 := J.al_but ehn
  have h3 := J.al_at ehn
  clear ehn
  have ob3 := b3 _ _ ob2 p1
  have a3' := b3 _ _ (b2 _ _ sg.a2 n2.symm) sg.n12.symm
  walk_at "rd"
  refine ⟨p, _, dx, _, _, rfl, ob3, T.K_Signature, T.N_Signature__ranks, sg_ranks _ _ _ _, ?_⟩
  walk_at "rd"
  refine ⟨d2, _, rfl, .inl ⟨kvR 0 es, .inr nm, a3', rfl, by rw [kvR_len, sizeLine_eq]; omega, rfl⟩, ?_⟩
  rw [putR (es := es) (e := ⟨nm, a, cm⟩) nin]
  generalize ehn : upd H3 d2 _ = H4
  have b4 := J.al_but ehn
  have h4 := J.al_at ehn
  clear ehn
  have ob4 := b4 _ _ ob3 p2
  have a4' := b4 _ _ (b3 _ _ (b2 _ _ sg.a3 n3.symm) sg.n13.symm) sg.n23.symm
  walk_at "rd"
  refine ⟨p, _, dx, _, _, rfl, ob4, T.K_Signature, T.N_Signature__flags, sg_flags _ _ _ _, ?_⟩
  walk_at "rd"
  refine ⟨d3, _, rfl, .inl ⟨kvF es, .inr nm, a4', rfl, by rw [show (kvF es).length = es.length from List.length_map .., sizeLine_eq]; omega, rfl⟩, ?_⟩
  rw [putFl (es := es) (e := ⟨nm, a, cm⟩) nin]
  generalize ehn : upd H4 d3 _ = H5
  have b5 := J.al_but ehn
  have h5 := J.al_at ehn
  clear ehn
  walk_at "rd"
  refine q ok1 aok nin l12 H5 ⟨b5 _ _ ob4 p3, ?_, b5 _ _ (b4 _ _ h3 sg.n12) sg.n13, b5 _ _ h4 sg.n23, h5, sg.n12, sg.n13, sg.n23, ?_⟩ fun a o ha z0 z1 z2 z3 => b5 _ _ (b4 _ _ (b3 _ _ (b2 _ _ (s1 _ _ ha) z0) z1) z2) z3
  · have := b5 _ _ (b4 _ _ (b3 _ _ h2 n1) n2) n3
    rw [this, List.map_append, List.map_append]; rfl
  · rw [List.map_append]
    exact List.nodup_append.mpr ⟨sg.nd, List.nodup_cons.mpr ⟨List.not_mem_nil, List.nodup_nil⟩, fun a ha b hb z => nin (by have z2 : a = nm := z.trans (List.mem_singleton.mp hb); rw [← z2]; exact ha)⟩

/-! UnknownName.__init__ -/
def sp_UnknownName___init (K : PySem.W.Frag) (C : Addr) : Sp := fun vs H Q _ => ∃ (a : Addr) (n : Str), vs = [.ref a, .str n] ∧ OexC K C ∧ PySem.W.findIn K (.ref C) "name" = some none ∧ H a = some (exo a C none) ∧ ∀ dx, H dx = none → dx ≠ a → Q .non (upd (upd H dx (exd dx [("name", .str n)])) a (exo a C (some dx)))
theorem ok_UnknownName___init (T : Tx K mg A) : FnOk P w K mg base CX0 1 A.a_UnknownName___init A.d_UnknownName___init ["self", "name"] (sp_UnknownName___init K A.c_UnknownName) := by
  refine T.F_UnknownName___init.ok sc_UnknownName___init (fun vs H Q E h => ?_) (fun cdv Ar outer s0 H vs Q E hr h => ?_)
  · obtain ⟨a, n, rfl, _⟩ := h; rfl
  obtain ⟨a, n, rfl, oC, nf, ha, q⟩ := h
  refine ⟨_, (pss_one (ps_ost (pv 0) (pv 1))), ?_⟩
  walk_at "rd"
  exact ⟨a, _, rfl, oC, nf, .inl ⟨ha, fun dx hd hne => q dx hd hne⟩⟩

/-! Signature._require -/
def sp_Signature__require (C B : Addr) : Sp := fun vs H Q E => ∃ (p dx n d1 d2 d3 : Addr) (es : List Opn) (f : Str), vs = [.ref p, .str f] ∧ SigAt C H p dx n d1 d2 d3 es ∧ (arOf es f ≠ none → Q .non H) ∧
  (arOf es f = none → ∀ dd H', Same H H' → H' dd = some (.xd [("name", .str f)]) → E (.ref B) (some dd) H')
theorem ok_Signature__require (T : Tx K mg A) : FnOk P w K mg base (L2.CX P w) 4 A.a_Signature__require A.d_Signature__require ["self", "name"] (sp_Signature__require A.c_Signature A.c_UnknownName) := by
  have G_UnknownName___init := ok_UnknownName___init (P := P) (w := w) (base := base) T
  refine T.F_Signature__require.okX sc_Signature__require (fun vs H Q E h => ?_) (fun cdv Ar outer s0 H vs Q E hr h => ?_)
  · obtain ⟨p, dx, n, d1, d2, d3, es, f, rfl, _⟩ := h; rfl
  obtain ⟨p, dx, n, d1, d2, d3, es, f, rfl, sg, q, qE⟩ := h
  refine ⟨_, (pss_one (ps_if (pt_cmp (pc_dnotin (hu_of hr) (pv 1) (pe_fld (pv 0) rfl))) (pss_one (ps_raise rfl (takes_of rfl rfl rfl rfl) (pmk_oex T.E_UnknownName.oC T.E_UnknownName.iC T.E_UnknownName.tI G_UnknownName___init (hr.mono (by omega)) T.b_UnknownName___init .nil pass0 rfl T.E_UnknownName.gC (pa_cons (pv 1) pa_nil)))) pss_nil)), ?_⟩
  walk_at "rd"
  refine ⟨p, _, dx, _, _, rfl, sg.ob, T.K_Signature, T.N_Signature__ranks, sg_ranks _ _ _ _, ?_⟩
  refine ⟨d2, _, rfl, DGet.k (k := Sum.inr f) sg.a2, ?_⟩
  cases e : arOf es f with
  | none =>
    rw [kvR_none (arOf_none e)]
    walk_at "rd"
    refine ⟨show 1 ≤ 1000 by decide, fun c nc => ?_⟩
    refine ⟨c, f, rfl, T.E_UnknownName.oC, T.nf_name_UnknownName, upd_same, fun dx' hdx hne => ⟨rfl, dx', [("name", .str f)], upd_same, ?_, ?_, ?_⟩⟩
    · rw [upd_ne hne, upd_same]
    · rw [upd_ne hne] at hdx; exact hdx
    · rw [upd_ne hne] at hdx
      refine qE e dx' _ (fun b ob eb => ?_) upd_same
      have bc : b ≠ c := fun z => by rw [z, nc] at eb; cases eb
      have bd : b ≠ dx' := fun z => by rw [z, hdx] at eb; cases eb
      rw [upd_ne bd, del_ne bc, upd_ne bc, upd_ne bd, upd_ne bc]
      exact eb
  | some a =>
    obtain ⟨j, x, gj, e1, e2⟩ := arOf_some e
    rw [← e1, kvR_some sg.nd gj]
    walk_at "rd"
    exact q (by rw [e]; exact fun z => nomatch z)

/-! Signature.arity -/
def sp_Signature_arity (C B : Addr) : Sp := fun vs H Q E => ∃ (p dx n d1 d2 d3 : Addr) (es : List Opn) (f : Str), vs = [.ref p, .str f] ∧ SigAt C H p dx n d1 d2 d3 es ∧ (∀ a : Nat, arOf es f = some a → Q (.int (a : Int)) H) ∧
  (arOf es f = none → ∀ dd H', Same H H' → H' dd = some (.xd [("name", .str f)]) → E (.ref B) (some dd) H')
theorem ok_Signature_arity (T : Tx K mg A) : FnOk P w K mg base (L2.CX P w) 6 A.a_Signature_arity A.d_Signature_arity ["self", "name"] (sp_Signature_arity A.c_Signature A.c_UnknownName) := by
  have G_Signature__require := ok_Signature__require (P := P) (w := w) (base := base) T
  refine T.F_Signature_arity.okX sc_Signature_arity (fun vs H Q E h => ?_) (fun cdv Ar outer s0 H vs Q E hr h => ?_)
  · obtain ⟨p, dx, n, d1, d2, d3, es, f, rfl, _⟩ := h; rfl
  obtain ⟨p, dx, n, d1, d2, d3, es, f, rfl, sg, q, qE⟩ := h
  refine ⟨_, (pss_cons (ps_expr (pe_meth (pv 0) T.K_Signature T.H_Signature__require G_Signature__require (hr.mono (by omega)) T.b_Signature__require .nil (passes_call (takes_of rfl rfl rfl rfl) fun _ _ _ _ h => h) (pa_cons (pv 1) pa_nil)))
    (pss_one (ps_ret (pe_dget (hu_of hr) (pe_fld (pv 0) rfl) (pv 1) (fun _ _ => rfl))))), ?_⟩
  walk_at "rd"
  have nr : ([(("_names" : Str), V.ref n), (("_arities" : Str), V.ref d1), (("_ranks" : Str), V.ref d2), (("_flags" : Str), V.ref d3)] : List (Str × V)).lookup ("_require" : Str) = none := sg_no _ _ _ _ (by decide +kernel) (by decide +kernel) (by decide +kernel) (by decide +kernel)
  refine ⟨p, dx, _, rfl, sg.ob, nr, ?_⟩
  walk_at "rd"
  refine ⟨p, dx, n, d1, d2, d3, es, f, rfl, sg, fun ne => ?_, fun z dd H' s' hd => qE z dd H' s' hd⟩
  obtain ⟨a, ha⟩ := Option.ne_none_iff_exists'.mp ne
  walk_at "rd"
  refine ⟨p, _, dx, _, _, rfl, sg.ob, T.K_Signature, T.N_Signature__arities, sg_arities _ _ _ _, ?_⟩
  walk_at "rd"
  have va := arOf_val sg.nd f
  rw [ha] at va
  refine ⟨d1, _, rfl, va ▸ DGet.k (k := Sum.inr f) sg.a1, ?_⟩
  walk_at "rd"
  exact q a ha

/-! Signature.rank -/
def sp_Signature_rank (C : Addr) : Sp := fun vs H Q _ => ∃ (p dx n d1 d2 d3 : Addr) (es : List Opn) (e : Opn) (j : Nat), vs = [.ref p, .str e.nm] ∧ SigAt C H p dx n d1 d2 d3 es ∧ es[j]? = some e ∧ Q (.int (j : Int)) H
theorem ok_Signature_rank (T : Tx K mg A) : FnOk P w K mg base CX0 6 A.a_Signature_rank A.d_Signature_rank ["self", "name"] (sp_Signature_rank A.c_Signature) := by
  have G_Signature__require := ok_Signature__require (P := P) (w := w) (base := base) T
  refine T.F_Signature_rank.ok sc_Signature_rank (fun vs H Q E h => ?_) (fun cdv Ar outer s0 H vs Q E hr h => ?_)
  · obtain ⟨p, dx, n, d1, d2, d3, es, e, j, rfl, _⟩ := h; rfl
  obtain ⟨p, dx, n, d1, d2, d3, es, e, j, rfl, sg, gj, q⟩ := h
  have me := List.mem_of_getElem? gj
  refine ⟨_, (pss_cons (ps_expr (pe_methS (pv 0) T.K_Signature T.H_Signature__require G_Signature__require (hr.mono (by omega)) T.b_Signature__require no_raise (pa_cons (pv 1) pa_nil)))
    (pss_one (ps_ret (pe_dget (hu_of hr) (pe_fld (pv 0) rfl) (pv 1) (fun _ _ => rfl))))), ?_⟩
  walk_at "rd"
  have nr : ([(("_names" : Str), V.ref n), (("_arities" : Str), V.ref d1), (("_ranks" : Str), V.ref d2), (("_flags" : Str), V.ref d3)] : List (Str × V)).lookup ("_require" : Str) = none := sg_no _ _ _ _ (by decide +kernel) (by decide +kernel) (by decide +kernel) (by decide +kernel)
  refine ⟨p, dx, _, rfl, sg.ob, nr, ?_⟩
  walk_at "rd"
  refine ⟨p, dx, n, d1, d2, d3, es, e.nm, rfl, sg, fun _ => ?_, fun z => absurd (List.mem_map.mpr ⟨e, me, rfl⟩) (arOf_none z)⟩
  walk_at "rd"
  refine ⟨p, _, dx, _, _, rfl, sg.ob, T.K_Signature, T.N_Signature__ranks, sg_ranks _ _ _ _, ?_⟩
  walk_at "rd"
  refine ⟨d2, _, rfl, (kvR_some sg.nd gj) ▸ DGet.k (k := Sum.inr e.nm) sg.a2, ?_⟩
  rw [Nat.zero_add]
  walk_at "rd"
  exact q

/-! Signature.is_commutative -/
def sp_Signature_is_commutative (C : Addr) : Sp := fun vs H Q _ => ∃ (p dx n d1 d2 d3 : Addr) (es : List Opn) (e : Opn), vs = [.ref p, .str e.nm] ∧ SigAt C H p dx n d1 d2 d3 es ∧ e ∈ es ∧ Q (.bl e.cm) H
theorem ok_Signature_is_commutative (T : Tx K mg A) : FnOk P w K mg base CX0 6 A.a_Signature_is_commutative A.d_Signature_is_commutative ["self", "name"] (sp_Signature_is_commutative A.c_Signature) := by
  have G_Signature__require := ok_Signature__require (P := P) (w := w) (base := base) T
  refine T.F_Signature_is_commutative.ok sc_Signature_is_commutative (fun vs H Q E h => ?_) (fun cdv Ar outer s0 H vs Q E hr h => ?_)
  · obtain ⟨p, dx, n, d1, d2, d3, es, e, rfl, _⟩ := h; rfl
  obtain ⟨p, dx, n, d1, d2, d3, es, e, rfl, sg, me, q⟩ := h
  refine ⟨_, (pss_cons (ps_expr (pe_methS (pv 0) T.K_Signature T.H_Signature__require G_Signature__require (hr.mono (by omega)) T.b_Signature__require no_raise (pa_cons (pv 1) pa_nil)))
    (pss_one (ps_ret (pe_dget (hu_of hr) (pe_fld (pv 0) rfl) (pv 1) (fun _ _ => rfl))))), ?_⟩
  walk_at "rd"
  have nr : ([(("_names" : Str), V.ref n), (("_arities" : Str), V.ref d1), (("_ranks" : Str), V.ref d2), (("_flags" : Str), V.ref d3)] : List (Str × V)).lookup ("_require" : Str) = none := sg_no _ _ _ _ (by decide +kernel) (by decide +kernel) (by decide +kernel) (by decide +kernel)
  refine ⟨p, dx, _, rfl, sg.ob, nr, ?_⟩
  walk_at "rd"
  refine ⟨p, dx, n, d1, d2, d3, es, e.nm, rfl, sg, fun _ => ?_, fun z => absurd (List.mem_map.mpr ⟨e, me, rfl⟩) (arOf_none z)⟩
  walk_at "rd"
  refine ⟨p, _, dx, _, _, rfl, sg.ob, T.K_Signature, T.N_Signature__flags, sg_flags _ _ _ _, ?_⟩
  walk_at "rd"
  refine ⟨d3, _, rfl, (kv_some (g := fun e => V.bl e.cm) sg.nd me) ▸ DGet.k (k := Sum.inr e.nm) sg.a3, ?_⟩
  walk_at "rd"
  exact q

/-! Signature.constants -/
def sp_Signature_constants (C : Addr) : Sp := fun vs H Q _ => ∃ (p dx n d1 d2 d3 : Addr) (es : List Opn), vs = [.ref p] ∧ SigAt C H p dx n d1 d2 d3 es ∧ es.length ≤ 12 ∧ ∀ a H', Same H H' → H a = none → H' a = some (.lst (((es.filter fun e => decide (e.ar = 0)).map (·.nm)).map V.str)) → Q (.ref a) H'
theorem ok_Signature_constants (T : Tx K mg A) : FnOk P w K mg base CX0 2 A.a_Signature_constants A.d_Signature_constants ["self"] (sp_Signature_constants A.c_Signature) := by

  refine T.F_Signature_constants.ok sc_Signature_constants (fun vs H Q E h => ?_) (fun cdv Ar outer s0 H vs Q E hr h => ?_)
  · obtain ⟨p, dx, n, d1, d2, d3, es, rfl, _⟩ := h; rfl
  obtain ⟨p, dx, n, d1, d2, d3, es, rfl, sg, hl, q⟩ := h
  refine ⟨_, (pss_one (ps_ret (pe_lc (own := [("name", 1)]) (by rfl) sc_Signature_constants.nd (pi_list (pe_fld (pv 0) rfl)) (blkOk_by (own := [("name", 1)]) (N := ["self", "name"]) (sc := defScope s_Signature_constants) (by decide +kernel)) (fun _ _ _ _ _ => (pg_name (i := 1) sc_Signature_constants.nd rfl (Or.inl rfl))) (fun _ _ _ _ _ => (pts_one (pt_cmpR op_eq (pe_dget (hu_of hr) (pe_fldK (K := K) rfl (pv 0) rfl) (pv 1) (fun _ _ => rfl)) pe_int (nomark _)))) (fun _ _ _ _ _ => (pv 1))))), ?_⟩
  walk_at "rd"
  refine ⟨p, _, dx, _, _, rfl, sg.ob, T.K_Signature, T.N_Signature__names, sg_names _ _ _ _, ?_⟩
  walk_at "rd"
  refine ⟨⟨_, SqL.of sg.nl⟩, fun D hD => ?_⟩
  refine lc_list (K := K) (a := n) (xs := (es.map (·.nm)).map V.str) (fun i H' => H' D = some (.lst ((((es.take i).filter fun e => decide (e.ar = 0)).map (·.nm)).map V.str)) ∧ Same H H') ?_ ?_ ?_ ?_
  · exact ⟨upd_same, same_new hD _⟩
  · rintro i H' hi ⟨hd', b⟩
    exact SqL.of (b _ _ sg.nl)
  · rintro i y H' hi ⟨hd', b⟩
    have hie : i < es.length := by
      have := (List.getElem?_eq_some_iff.mp hi).1
      simpa using this
    have ge := List.getElem?_eq_getElem hie
    have me := List.getElem_mem hie
    have gy : y = .str es[i].nm := by
      rw [List.getElem?_map, List.getElem?_map, ge] at hi
      exact (Option.some.inj hi).symm
    subst gy
    refine ⟨rfl, ?_⟩
    have sg' := sg.same b
    have ln : (((es.take i).filter fun e => decide (e.ar = 0)).map (·.nm)).length ≤ 12 := by
      rw [List.length_map]
      exact Nat.le_trans (List.length_filter_le _ _) (by rw [List.length_take]; omega)
    walk_at "rd"
    refine ⟨p, _, dx, _, _, rfl, sg'.ob, T.K_Signature, T.N_Signature__arities, sg_arities _ _ _ _, ?_⟩
    walk_at "rd"
    refine ⟨d1, _, rfl, (kv_some (g := fun e => V.int (e.ar : Int)) sg'.nd me) ▸ DGet.k (k := Sum.inr es[i].nm) sg'.a1, ?_⟩
    walk_at "rd"
    have fe : ((es.take (i + 1)).filter fun e => decide (e.ar = 0)) = ((es.take i).filter fun e => decide (e.ar = 0)) ++ (if es[i].ar = 0 then [es[i]] else []) := by
      rw [list_take_succ ge, List.filter_append]
      congr 1
      by_cases z : es[i].ar = 0
      · rw [if_pos z]; simp [z]
      · rw [if_neg z]; simp [z]
    refine ifEq (fun z => ?_) (fun z => ?_)
    · walk_at "rd"
      rw [if_pos (by omega)] at fe
      refine ⟨_, hd', by rw [List.length_map, sizeLine_eq]; omega, ?_, same_mut b hD _⟩
      rw [upd_same, fe, List.map_append, List.map_append]; rfl
    · rw [if_neg (by omega), List.append_nil] at fe
      rw [fe]
      exact ⟨hd', b⟩
  · rintro H' ⟨hd', b⟩
    rw [List.length_map, List.length_map, List.take_length] at hd'
    exact q D H' b hD hd'

/-! _wall -/
def sp_u_wall : Sp := fun _ _ _ _ => False
theorem ok_u_wall (T : Tx K mg A) : FnOk P w K mg base CX0 1 A.a_u_wall A.d_u_wall ["k"] sp_u_wall := fn_none fun _ _ _ _ h => h

/-! Signature.check -/
def sp_Signature_check : Sp := fun _ _ _ _ => False
theorem ok_Signature_check (T : Tx K mg A) : FnOk P w K mg base CX0 1 A.a_Signature_check A.d_Signature_check ["self", "term"] sp_Signature_check := fn_none fun _ _ _ _ h => h

/-! Signature.copy -/
def sp_Signature_copy (C : Addr) : Sp := fun vs H Q _ => ∃ (p dx n d1 d2 d3 : Addr) (es : List Opn), vs = [.ref p] ∧ SigAt C H p dx n d1 d2 d3 es ∧ es.length ≤ 12 ∧ (∀ e ∈ es, OpnOk e) ∧
  ∀ p' dx' n' e1 e2 e3 H', Same H H' → H p' = none → H n' = none → H e1 = none → H e2 = none → H e3 = none → SigAt C H' p' dx' n' e1 e2 e3 es → Q (.ref p') H'
theorem ok_Signature_copy (T : Tx K mg A) : FnOk P w K mg base CX0 8 A.a_Signature_copy A.d_Signature_copy ["self"] (sp_Signature_copy A.c_Signature) := by
  have G_Signature___init := ok_Signature___init (P := P) (w := w) (base := base) T
  have G_Signature_declare := ok_Signature_declare (P := P) (w := w) (base := base) T
  refine T.F_Signature_copy.ok sc_Signature_copy (fun vs H Q E h => ?_) (fun cdv Ar outer s0 H vs Q E hr h => ?_)
  · obtain ⟨p, dx, n, d1, d2, d3, es, rfl, _⟩ := h; rfl
  obtain ⟨p, dx, n, d1, d2, d3, es, rfl, sg0, hl, hok, q⟩ := h
  refine ⟨_, (pss_cons (ps_set (i := 1) sc_Signature_copy.nd rfl (Or.inl rfl) (pe_make0 T.M_Signature G_Signature___init (hr.mono (by omega)) rfl T.g_Signature T.b_Signature___init .nil pass0))
    (pss_cons (ps_for PassesOwn.never rfl (pi_list (pe_callTy (r := rListS K) j_list (by rfl) T.n_list boot_list (pa_cons (pe_fld (pv 0) rfl) pa_nil))) (pg_name (i := 2) sc_Signature_copy.nd rfl (Or.inl rfl)) (pss_one (ps_expr (pe_methNS (pv 1) T.K_Signature T.H_Signature_declare G_Signature_declare (hr.mono (by omega)) T.kb_Signature_declare no_raise (pa_cons (pv 2) (pa_cons (pe_dget (hu_of hr) (pe_fld (pv 0) rfl) (pv 2) (fun _ _ => rfl)) pa_nil)) (pk_cons (pe_dget (hu_of hr) (pe_fld (pv 0) rfl) (pv 2) (fun _ _ => rfl)) pk_nil)))))
    (pss_one (ps_ret (pv 1))))), ?_⟩
  walk_at "rd"
  dsimp only [tSeq, tAsg, tMake, tNil, gName]
  refine fun p' dx' np ndx ne => ?_
  have s0 : Same H (upd (upd H dx' (.own p')) p' (.ins A.c_Signature dx' [])) := fun b o e => by
    rw [upd_ne (ne_of_none e np), upd_ne (ne_of_none e ndx)]
    exact e
  have h0 : upd (upd H dx' (.own p')) p' (.ins A.c_Signature dx' []) p' = some (.ins A.c_Signature dx' []) := upd_same
  generalize upd (upd H dx' (.own p')) p' (.ins A.c_Signature dx' []) = H0 at s0 h0
  refine ⟨p', dx', rfl, h0, fun n' e1 e2 e3 H1 nn n1 n2 n3 np' m1 m2 m3 sg b1 => ⟨rfl, ?_⟩⟩
  have fr : ∀ {a : Addr}, H0 a = none → H a = none := fun {a} e => by
    cases z : H a with
    | none => rfl
    | some ob => rw [s0 _ _ z] at e; cases e
  have s1 : Same H H1 := fun c ob e => b1 _ _ (s0 _ _ e) (ne_of_none e np)
  walk_at "rd"
  have sg1 := sg0.same s1
  refine ⟨p, _, dx, _, _, rfl, sg1.ob, T.K_Signature, T.N_Signature__names, sg_names _ _ _ _, ?_⟩
  walk_at "rd"
  refine ⟨n, _, rfl, .inl (SqL.of sg1.nl), fun ll nll => ?_⟩
  generalize ehn : upd H1 ll _ = H2
  have s12 := J.al_same nll ehn
  have hll := J.al_at ehn
  clear ehn
  refine ⟨ll, rfl, ⟨_, SqL.of hll⟩, for_list (K := K) (a := ll) (xs := (es.map (·.nm)).map V.str) (fun i σ' H' => ∃ x, σ' = [some (.ref p), some (.ref p'), x] ∧ Same H H' ∧ H' ll = some (.lst ((es.map (·.nm)).map V.str)) ∧ SigAt A.c_Signature H' p' dx' n' e1 e2 e3 (es.take i)) ?_ ?_ ?_ ?_⟩
  · exact ⟨none, rfl, s1.trans s12, hll, sg.same s12⟩
  · rintro i σ' H3 _ ⟨x, rfl, _, h3, _⟩
    exact SqL.of h3
  · rintro i v σ' H3 hx ⟨x, rfl, s3, h3, sg3⟩
    have hi : i < es.length := by
      have := (List.getElem?_eq_some_iff.mp hx).1
      simpa using this
    have gv : v = .str es[i].nm := by
      rw [List.getElem?_map, List.getElem?_map, List.getElem?_eq_getElem hi] at hx
      exact (Option.some.inj hx).symm
    subst gv
    have ge := List.getElem?_eq_getElem hi
    have me := List.getElem_mem hi
    have ok := hok _ me
    have sg03 := sg0.same s3
    have nm : ([(("_names" : Str), V.ref n'), (("_arities" : Str), V.ref e1), (("_ranks" : Str), V.ref e2), (("_flags" : Str), V.ref e3)] : List (Str × V)).lookup ("declare" : Str) = none := sg_no _ _ _ _ (by decide +kernel) (by decide +kernel) (by decide +kernel) (by decide +kernel)
    walk_at "rd"
    refine ⟨p', dx', _, rfl, sg3.ob, nm, ?_⟩
    walk_at "rd"
    refine ⟨p, _, dx, _, _, rfl, sg03.ob, T.K_Signature, T.N_Signature__arities, sg_arities _ _ _ _, ?_⟩
    walk_at "rd"
    refine ⟨d1, _, rfl, (kv_some (g := fun e => V.int (e.ar : Int)) sg03.nd me) ▸ DGet.k (k := Sum.inr es[i].nm) sg03.a1, ?_⟩
    walk_at "rd"
    refine ⟨p, _, dx, _, _, rfl, sg03.ob, T.K_Signature, T.N_Signature__flags, sg_flags _ _ _ _, ?_⟩
    walk_at "rd"
    refine ⟨d3, _, rfl, (kv_some (g := fun e => V.bl e.cm) sg03.nd me) ▸ DGet.k (k := Sum.inr es[i].nm) sg03.a3, ?_⟩
    walk_at "rd"
    have nmok : NmOk es[i].nm := ⟨ok.lo, ok.hi, ok.low⟩
    have arok : ArOk (es[i].ar : Int) es[i].cm := ⟨by omega, by have := ok.ar; omega, fun z => by have := ok.cm z; omega⟩
    have nin := nd_take sg0.nd ge
    refine ⟨p', dx', n', e1, e2, e3, es.take i, es[i].nm, (es[i].ar : Int), es[i].cm, rfl, sg3, by rw [List.length_take]; omega, by have := ok.hi; omega, fun z => absurd nmok z, fun _ z => absurd arok z, fun _ _ z => absurd z nin, fun _ _ _ z => by rw [List.length_take] at z; omega, fun _ _ _ _ H4 sg4 k4 => ?_⟩
    have lln : ∀ {a : Addr}, H1 a ≠ none → ll ≠ a := fun h z => h (by rw [← z]; exact nll)
    refine ⟨_, rfl, fun a ob e => k4 _ _ (s3 _ _ e) (ne_of_none e (fr nn)) (ne_of_none e (fr n1)) (ne_of_none e (fr n2)) (ne_of_none e (fr n3)), k4 _ _ h3 (lln (by rw [sg.nl]; simp)) (lln (by rw [sg.a1]; simp)) (lln (by rw [sg.a2]; simp)) (lln (by rw [sg.a3]; simp)), ?_⟩
    rw [List.take_succ, ge]
    exact sg4
  · rintro σ' H3 ⟨x, rfl, s3, h3, sg3⟩
    rw [List.length_map, List.length_map, List.take_length] at sg3
    walk_at "rd"
    exact q p' dx' n' e1 e2 e3 H3 s3 np (fr nn) (fr n1) (fr n2) (fr n3) sg3

/-! _law_told -/
def sp_u_law_told (C : Addr) : Sp := fun vs H Q _ => ∃ (p dx n d1 d2 d3 : Addr) (es : List Opn) (nm : Str) (ar : Int) (cm : Bool), vs = [.ref p, .str nm, .int ar, .bl cm] ∧ SigAt C H p dx n d1 d2 d3 es ∧ es.length ≤ 12 ∧ nm.length ≤ 1000 ∧
  (¬ NmOk nm → ∀ v H', Same H H' → RefAt H' v "name" → Q v H') ∧
  (NmOk nm → ¬ ArOk ar cm → ∀ v H', Same H H' → RefAt H' v "arity" → Q v H') ∧
  (NmOk nm → ArOk ar cm → nm ∈ es.map (·.nm) → ∀ v H', Same H H' → RefAt H' v "duplicate" → Q v H') ∧
  (NmOk nm → ArOk ar cm → nm ∉ es.map (·.nm) → es.length = 12 → ∀ v H', Same H H' → RefAt H' v "large" → Q v H') ∧
  (NmOk nm → ArOk ar cm → nm ∉ es.map (·.nm) → es.length < 12 → ∀ H', SigAt C H' p dx n d1 d2 d3 (es ++ [⟨nm, ar.toNat, cm⟩]) → (∀ a o, H a = some o → a ≠ n → a ≠ d1 → a ≠ d2 → a ≠ d3 → H' a = some o) → Q (.int (es.length : Int)) H')
theorem ok_u_law_told (T : Tx K mg A) : FnOk P w K mg base CX0 10 A.a_u_law_told A.d_u_law_told ["signature", "name", "arity", "flag"] (sp_u_law_told A.c_Signature) := by
  have G_Signature_declare := ok_Signature_declare (P := P) (w := w) (base := base) T
  obtain ⟨ds_Signature_declare, rv_Signature_declare, bk_Signature_declare⟩ := T.b_Signature_declare
  refine T.F_u_law_told.ok sc_u_law_told (fun vs H Q E h => ?_) (fun cdv Ar outer s0 H vs Q E hr h => ?_)
  · obtain ⟨p, dx, n, d1, d2, d3, es, nm, ar, cm, rfl, _⟩ := h; rfl
  obtain ⟨p, dx, n, d1, d2, d3, es, nm, ar, cm, rfl, sg, hl, hz, qN, qR, qD, qL, q⟩ := h
  refine ⟨_, (pss_cons (ps_try_manyN rfl rfl sc_u_law_told.nd takes0 (fun W pn xe tk _ => (pss_cons (ps_if (pt_val (pv 3)) (pss_one (ps_ret (pe_methNS (pv 0) T.K_Signature T.H_Signature_declare G_Signature_declare (hr.mono (by omega)) T.kb_Signature_declare (fun σ => passAt tk σ) (pa_cons (pv 1) (pa_cons (pv 2) pa_nil)) (pk_cons pe_bl pk_nil)))) pss_nil)
    (pss_one (ps_ret (pe_methSD (pv 0) T.K_Signature T.H_Signature_declare G_Signature_declare (hr.mono (by omega)) bk_Signature_declare rv_Signature_declare (fun σ => passAt tk σ) (pa_cons (pv 1) (pa_cons (pv 2) pa_nil))))))) (.as (i := 4) rfl rfl ⟨rfl, by decide, .inl T.E_InvalidName.gC⟩ (fun ea oe cls d pn hz hf => pss_assume (p := cls = .ref A.c_InvalidName ∧ d = none) fun hp => (pss_one (ps_if (PW.pt (pw_and (pt_val (pe_callB (r := rIsE K A.c_InvalidName ea) (call_isE T.E_InvalidName.dC (hp.1 ▸ hp.2 ▸ hz) hf) (by rfl) T.n_isinstance boot_isinstance (pa_cons (pv 4) (pa_cons (pe_glob (v := .ref A.c_HallError) rfl T.E_HallError.gC rfl) pa_nil)))) (pw_and1 (pt_not (pt_val (pe_callB (r := rIsE K A.c_InvalidName ea) (call_isE T.E_InvalidName.dC (hp.1 ▸ hp.2 ▸ hz) hf) (by rfl) T.n_isinstance boot_isinstance (pa_cons (pv 4) (pa_cons (pe_glob (v := .ref A.c_InvalidArity) rfl T.E_InvalidArity.gC rfl) pa_nil)))))))) (pss_one (ps_ret (pe_tup (pa_cons pe_str (pa_cons pe_str pa_nil))))) pss_nil))) (.as (i := 4) rfl rfl ⟨rfl, by decide, .inl T.E_InvalidArity.gC⟩ (fun ea oe cls d pn hz hf => pss_assume (p := cls = .ref A.c_InvalidArity ∧ d = none) fun hp => (pss_one (ps_if (PW.pt (pw_and (pt_val (pe_callB (r := rIsE K A.c_InvalidArity ea) (call_isE T.E_InvalidArity.dC (hp.1 ▸ hp.2 ▸ hz) hf) (by rfl) T.n_isinstance boot_isinstance (pa_cons (pv 4) (pa_cons (pe_bltn (v := .ty "ValueError") (by rfl) T.n_ValueError (by decide +kernel) rfl) pa_nil)))) (pw_and1 (pt_not (pt_val (pe_callB (r := rIsE K A.c_InvalidArity ea) (call_isE T.E_InvalidArity.dC (hp.1 ▸ hp.2 ▸ hz) hf) (by rfl) T.n_isinstance boot_isinstance (pa_cons (pv 4) (pa_cons (pe_glob (v := .ref A.c_Duplicate) rfl T.E_Duplicate.gC rfl) pa_nil)))))))) (pss_one (ps_ret (pe_tup (pa_cons pe_str (pa_cons pe_str pa_nil))))) pss_nil))) (.as (i := 4) rfl rfl ⟨rfl, by decide, .inl T.E_Duplicate.gC⟩ (fun ea oe cls d pn hz hf => pss_assume (p := cls = .ref A.c_Duplicate ∧ d = none) fun hp => (pss_one (ps_if (pt_not (pt_val (pe_callB (r := rIsE K A.c_Duplicate ea) (call_isE T.E_Duplicate.dC (hp.1 ▸ hp.2 ▸ hz) hf) (by rfl) T.n_isinstance boot_isinstance (pa_cons (pv 4) (pa_cons (pe_glob (v := .ref A.c_TooLarge) rfl T.E_TooLarge.gC rfl) pa_nil))))) (pss_one (ps_ret (pe_tup (pa_cons pe_str (pa_cons pe_str pa_nil))))) pss_nil))) (.cons ⟨rfl, by decide, .inl T.E_TooLarge.gC⟩ (fun ea oe cls d pn hz hf => (pss_one (ps_ret (pe_tup (pa_cons pe_str (pa_cons pe_str pa_nil)))))) .nil)))))
    (pss_one (ps_ret (pe_tup (pa_cons pe_str (pa_cons pe_str pa_nil)))))), ?_⟩
  have nm1 : ([(("_names" : Str), V.ref n), (("_arities" : Str), V.ref d1), (("_ranks" : Str), V.ref d2), (("_flags" : Str), V.ref d3)] : List (Str × V)).lookup ("declare" : Str) = none := sg_no _ _ _ _ (by decide +kernel) (by decide +kernel) (by decide +kernel) (by decide +kernel)
  walk_at "rd"
  cases cm with
  | true =>
    refine (if_pos rfl).mpr ?_
    walk_at "rd"
    refine ⟨p, dx, _, rfl, sg.ob, nm1, ?_⟩
    walk_at "rd"
    refine ⟨p, dx, n, d1, d2, d3, es, nm, ar, true, rfl, sg, hl, hz, fun z1 H1 s1 => ?_, fun z1 z2 H1 s1 => ?_, fun z1 z2 z3 H1 s1 => ?_, fun z1 z2 z3 z4 H1 s1 => ?_, fun z1 z2 z3 z4 H1 sg1 k1 => ?_⟩
    · refine ⟨true, T.E_InvalidName.eC, fun _ a ha => ⟨⟨rfl, rfl⟩, ?_⟩, fun z => nomatch z⟩
      refine ⟨_, rfl, ?_⟩
      refine ⟨V.ref A.c_HallError, .ref A.c_HallError, true, rfl, fun u r => by cases r; rfl, T.kit_InvalidName_HallError, true, rfl, ?_⟩
      walk_at "rd"
      refine ⟨V.ref A.c_InvalidArity, .ref A.c_InvalidArity, false, rfl, fun u r => by cases r; rfl, T.kit_InvalidName_InvalidArity, false, rfl, ?_⟩
      walk_at "rd"
      refine ⟨show 2 ≤ sizeLine by decide, ?_⟩
      first | intro tn n2 | refine fun tn n2 => ?_
      generalize ehn : upd H1 tn _ = H2
      have s2 := J.al_same n2 ehn
      have h2 := J.al_at ehn
      clear ehn
      exact qN z1 _ H2 (s1.trans s2) ⟨tn, rfl, h2⟩
    · refine ⟨false, exm_from T.E_InvalidName.eC T.sub_R_N, (fun z => nomatch z), fun _ => ?_⟩
      refine ⟨true, T.E_InvalidArity.eC, fun _ a ha => ⟨⟨rfl, rfl⟩, ?_⟩, fun z => nomatch z⟩
      refine ⟨_, rfl, ?_⟩
      walk_at "rd"
      refine ⟨V.ty "ValueError", .type "ValueError", true, rfl, fun u r => by cases r; rfl, T.kit_InvalidArity_ValueError, true, rfl, ?_⟩
      walk_at "rd"
      refine ⟨V.ref A.c_Duplicate, .ref A.c_Duplicate, false, rfl, fun u r => by cases r; rfl, T.kit_InvalidArity_Duplicate, false, rfl, ?_⟩
      walk_at "rd"
      refine ⟨show 2 ≤ sizeLine by decide, ?_⟩
      first | intro tn n2 | refine fun tn n2 => ?_
      generalize ehn : upd H1 tn _ = H2
      have s2 := J.al_same n2 ehn
      have h2 := J.al_at ehn
      clear ehn
      exact qR z1 z2 _ H2 (s1.trans s2) ⟨tn, rfl, h2⟩
    · refine ⟨false, exm_from T.E_InvalidName.eC T.sub_D_N, (fun z => nomatch z), fun _ => ?_⟩
      refine ⟨false, exm_from T.E_InvalidArity.eC T.sub_D_R, (fun z => nomatch z), fun _ => ?_⟩
      refine ⟨true, T.E_Duplicate.eC, fun _ a ha => ⟨⟨rfl, rfl⟩, ?_⟩, fun z => nomatch z⟩
      walk_at "rd"
      refine ⟨V.ref A.c_TooLarge, .ref A.c_TooLarge, false, rfl, fun u r => by cases r; rfl, T.kit_Duplicate_TooLarge, false, rfl, ?_⟩
      walk_at "rd"
      refine ⟨show 2 ≤ sizeLine by decide, ?_⟩
      first | intro tn n2 | refine fun tn n2 => ?_
      generalize ehn : upd H1 tn _ = H2
      have s2 := J.al_same n2 ehn
      have h2 := J.al_at ehn
      clear ehn
      exact qD z1 z2 z3 _ H2 (s1.trans s2) ⟨tn, rfl, h2⟩
    · refine ⟨false, exm_from T.E_InvalidName.eC T.sub_L_N, (fun z => nomatch z), fun _ => ?_⟩
      refine ⟨false, exm_from T.E_InvalidArity.eC T.sub_L_R, (fun z => nomatch z), fun _ => ?_⟩
      refine ⟨false, exm_from T.E_Duplicate.eC T.sub_L_D, (fun z => nomatch z), fun _ => ?_⟩
      refine ⟨true, T.E_TooLarge.eC, fun _ e he => ?_, fun z => nomatch z⟩
      walk_at "rd"
      refine ⟨show 2 ≤ sizeLine by decide, ?_⟩
      first | intro tn n2 | refine fun tn n2 => ?_
      generalize ehn : upd H1 tn _ = H2
      have s2 := J.al_same n2 ehn
      have h2 := J.al_at ehn
      clear ehn
      exact qL z1 z2 z3 z4 _ H2 (s1.trans s2) ⟨tn, rfl, h2⟩
    · exact q z1 z2 z3 z4 H1 sg1 k1
  | false =>
    refine (if_neg (by decide)).mpr ?_
    walk_at "rd"
    refine ⟨p, dx, _, rfl, sg.ob, nm1, ?_⟩
    walk_at "ri"
    refine ⟨p, dx, n, d1, d2, d3, es, nm, ar, false, rfl, sg, hl, hz, fun z1 H1 s1 => ?_, fun z1 z2 H1 s1 => ?_, fun z1 z2 z3 H1 s1 => ?_, fun z1 z2 z3 z4 H1 s1 => ?_, fun z1 z2 z3 z4 H1 sg1 k1 => ?_⟩
    · refine ⟨true, T.E_InvalidName.eC, fun _ a ha => ⟨⟨rfl, rfl⟩, ?_⟩, fun z => nomatch z⟩
      refine ⟨_, rfl, ?_⟩
      refine ⟨V.ref A.c_HallError, .ref A.c_HallError, true, rfl, fun u r => by cases r; rfl, T.kit_InvalidName_HallError, true, rfl, ?_⟩
      walk_at "rd"
      refine ⟨V.ref A.c_InvalidArity, .ref A.c_InvalidArity, false, rfl, fun u r => by cases r; rfl, T.kit_InvalidName_InvalidArity, false, rfl, ?_⟩
      walk_at "rd"
      refine ⟨show 2 ≤ sizeLine by decide, ?_⟩
      first | intro tn n2 | refine fun tn n2 => ?_
      generalize ehn : upd H1 tn _ = H2
      have s2 := J.al_same n2 ehn
      have h2 := J.al_at ehn
      clear ehn
      exact qN z1 _ H2 (s1.trans s2) ⟨tn, rfl, h2⟩
    · refine ⟨false, exm_from T.E_InvalidName.eC T.sub_R_N, (fun z => nomatch z), fun _ => ?_⟩
      refine ⟨true, T.E_InvalidArity.eC, fun _ a ha => ⟨⟨rfl, rfl⟩, ?_⟩, fun z => nomatch z⟩
      refine ⟨_, rfl, ?_⟩
      walk_at "rd"
      refine ⟨V.ty "ValueError", .type "ValueError", true, rfl, fun u r => by cases r; rfl, T.kit_InvalidArity_ValueError, true, rfl, ?_⟩
      walk_at "rd"
      refine ⟨V.ref A.c_Duplicate, .ref A.c_Duplicate, false, rfl, fun u r => by cases r; rfl, T.kit_InvalidArity_Duplicate, false, rfl, ?_⟩
      walk_at "rd"
      refine ⟨show 2 ≤ sizeLine by decide, ?_⟩
      first | intro tn n2 | refine fun tn n2 => ?_
      generalize ehn : upd H1 tn _ = H2
      have s2 := J.al_same n2 ehn
      have h2 := J.al_at ehn
      clear ehn
      exact qR z1 z2 _ H2 (s1.trans s2) ⟨tn, rfl, h2⟩
    · refine ⟨false, exm_from T.E_InvalidName.eC T.sub_D_N, (fun z => nomatch z), fun _ => ?_⟩
      refine ⟨false, exm_from T.E_InvalidArity.eC T.sub_D_R, (fun z => nomatch z), fun _ => ?_⟩
      refine ⟨true, T.E_Duplicate.eC, fun _ a ha => ⟨⟨rfl, rfl⟩, ?_⟩, fun z => nomatch z⟩
      walk_at "rd"
      refine ⟨V.ref A.c_TooLarge, .ref A.c_TooLarge, false, rfl, fun u r => by cases r; rfl, T.kit_Duplicate_TooLarge, false, rfl, ?_⟩
      walk_at "rd"
      refine ⟨show 2 ≤ sizeLine by decide, ?_⟩
      first | intro tn n2 | refine fun tn n2 => ?_
      generalize ehn : upd H1 tn _ = H2
      have s2 := J.al_same n2 ehn
      have h2 := J.al_at ehn
      clear ehn
      exact qD z1 z2 z3 _ H2 (s1.trans s2) ⟨tn, rfl, h2⟩
    · refine ⟨false, exm_from T.E_InvalidName.eC T.sub_L_N, (fun z => nomatch z), fun _ => ?_⟩
      refine ⟨false, exm_from T.E_InvalidArity.eC T.sub_L_R, (fun z => nomatch z), fun _ => ?_⟩
      refine ⟨false, exm_from T.E_Duplicate.eC T.sub_L_D, (fun z => nomatch z), fun _ => ?_⟩
      refine ⟨true, T.E_TooLarge.eC, fun _ e he => ?_, fun z => nomatch z⟩
      walk_at "rd"
      refine ⟨show 2 ≤ sizeLine by decide, ?_⟩
      first | intro tn n2 | refine fun tn n2 => ?_
      generalize ehn : upd H1 tn _ = H2
      have s2 := J.al_same n2 ehn
      have h2 := J.al_at ehn
      clear ehn
      exact qL z1 z2 z3 z4 _ H2 (s1.trans s2) ⟨tn, rfl, h2⟩
    · exact q z1 z2 z3 z4 H1 sg1 k1

/-! _law_mix -/
def sp_u_law_mix : Sp := fun vs H Q _ => ∃ c : Int, vs = [.int c] ∧ ∀ r : Int, 0 ≤ r → r < 2147483647 → Q (.int r) H
theorem ok_u_law_mix (T : Tx K mg A) : FnOk P w K mg base CX0 (1) A.a_u_law_mix A.d_u_law_mix ["cell"] sp_u_law_mix := by
  refine T.F_u_law_mix.ok sc_u_law_mix (fun vs H Q E h => ?_) (fun cdv Ar outer s0 H vs Q E hr h => ?_)
  · obtain ⟨c, rfl, _⟩ := h; rfl
  obtain ⟨c, rfl, q⟩ := h
  refine ⟨_, (pss_cons (ps_set (i := 1) sc_u_law_mix.nd rfl (Or.inl rfl) (pe_op op_mod (pe_callTy call_int1 (by rfl) T.n_int boot_int (pa_cons (pv 0) pa_nil)) pe_int))
    (pss_cons (ps_set (i := 1) sc_u_law_mix.nd rfl (Or.inl rfl) (pe_op op_mod (pe_callTy call_int1 (by rfl) T.n_int boot_int (pa_cons (pe_op op_add (pe_op op_mul (pv 1) pe_int) pe_int) pa_nil)) pe_int))
    (pss_one (ps_ret (pe_op op_mod (pe_callTy call_int1 (by rfl) T.n_int boot_int (pa_cons (pe_op op_add (pe_op op_mul (pv 1) pe_int) pe_int) pa_nil)) pe_int))))), ?_⟩
  walk_at "rd"
  refine q _ (Int.emod_nonneg _ (by decide)) ?_
  show _ % _ < _
  omega

/-! _law_number -/
def sp_u_law_number : Sp := fun vs H Q _ => ∃ c : Int, vs = [.int c] ∧ ∀ r : Int, 0 ≤ r → Q (.int r) H
theorem ok_u_law_number (T : Tx K mg A) : FnOk P w K mg base CX0 (2) A.a_u_law_number A.d_u_law_number ["cell"] sp_u_law_number := by
  have G_u_law_mix := ok_u_law_mix (P := P) (w := w) (base := base) T
  refine T.F_u_law_number.ok sc_u_law_number (fun vs H Q E h => ?_) (fun cdv Ar outer s0 H vs Q E hr h => ?_)
  · obtain ⟨c, rfl, _⟩ := h; rfl
  obtain ⟨c, rfl, q⟩ := h
  refine ⟨_, (pss_cons (ps_if (pt_cmpR op_ge (pv 0) (pe_op op_pow pe_int pe_int) (nomark _)) (pss_one (ps_ret (pv 0))) pss_nil)
    (pss_cons (ps_set (i := 1) sc_u_law_number.nd rfl (Or.inl rfl) (pe_call G_u_law_mix (hr.mono (by omega)) rfl T.m_u_law_mix T.F_u_law_mix.kp T.b_u_law_mix .nil pass0 (pa_cons (pv 0) pa_nil)))
    (pss_one (ps_ret (pe_op op_add (pe_op op_mul (pv 1) pe_int) (pe_call G_u_law_mix (hr.mono (by omega)) rfl T.m_u_law_mix T.F_u_law_mix.kp T.b_u_law_mix .nil pass0 (pa_cons (pe_op op_add (pv 1) (pv 0)) pa_nil))))))), ?_⟩
  walk_at "rd"
  refine ite2 (fun e => ?_) (fun e => ?_)
  · walk_at "rd"
    have e := of_decide_eq_true e
    refine q _ (Int.le_trans ?_ e)
    decide
  · walk_at "rd"
    intro r1 r10 r11
    walk_at "rd"
    intro r2 r20 r21
    walk_at "rd"
    refine q _ ?_
    show 0 ≤ r1 * 2147483629 + r2
    omega

/-! _law_draw -/
def sp_u_law_draw : Sp := fun vs H Q _ => ∃ (s l : Addr) (m : Int), vs = [.ref s, .int m] ∧ St H s l ∧ 1 ≤ m ∧ m < 1073741824 ∧ ∀ r H', 0 ≤ r → r < m → But s H H' → St H' s l → Q (.int r) H'
theorem ok_u_law_draw (T : Tx K mg A) : FnOk P w K mg base CX0 (3) A.a_u_law_draw A.d_u_law_draw ["state", "many"] sp_u_law_draw := by
  have G_u_law_number := ok_u_law_number (P := P) (w := w) (base := base) T
  refine T.F_u_law_draw.ok sc_u_law_draw (fun vs H Q E h => ?_) (fun cdv Ar outer s0 H vs Q E hr h => ?_)
  · obtain ⟨s, l, m, rfl, _⟩ := h; rfl
  obtain ⟨s, l, m, rfl, hst, m1, m2, q⟩ := h
  refine ⟨_, (pss_cons (ps_if (PW.pt (pw_and (pt_cmpR op_lt (pe_ix (r := rIxL K) ix_list (pv 0) pe_int (fun _ _ => rfl)) (pv 1) (nomark _)) (pw_and1 (pt_cmpR op_lt (pe_ix (r := rIxL K) ix_list (pv 0) pe_int (fun _ _ => rfl)) (pe_callB (r := rLenS K) j_len (by rfl) T.n_len PySem.boot_len (pa_cons (pe_ix (r := rIxL K) ix_list (pv 0) pe_int (fun _ _ => rfl)) pa_nil)) (nomark _))))) (pss_cons (ps_asg (pe_call G_u_law_number (hr.mono (by omega)) rfl T.m_u_law_number T.F_u_law_number.kp T.b_u_law_number .nil pass0 (pa_cons (pe_ix (r := rIxL K) ix_list (pe_ix (r := rIxL K) ix_list (pv 0) pe_int (fun _ _ => rfl)) (pe_ix (r := rIxL K) ix_list (pv 0) pe_int (fun _ _ => rfl)) (fun _ _ => rfl)) pa_nil)) (pg_sub (pv 0) pe_int set_list))
    (pss_one (ps_asg (pe_op op_add (pe_ix (r := rIxL K) ix_list (pv 0) pe_int (fun _ _ => rfl)) pe_int) (pg_sub (pv 0) pe_int set_list)))) pss_nil)
    (pss_cons (ps_if (pt_cmpR op_eq (pe_ix (r := rIxL K) ix_list (pv 0) pe_int (fun _ _ => rfl)) pe_int (nomark _)) (pss_cons (ps_asg (pe_op op_mod (pe_callTy call_int1 (by rfl) T.n_int boot_int (pa_cons (pe_op op_add (pe_op op_mul (pe_ix (r := rIxL K) ix_list (pv 0) pe_int (fun _ _ => rfl)) pe_int) pe_int) pa_nil)) pe_int) (pg_sub (pv 0) pe_int set_list))
    (pss_one (ps_ret (pe_op op_modN (pe_callTy call_int1 (by rfl) T.n_int boot_int (pa_cons (pe_op op_fdiv (pe_ix (r := rIxL K) ix_list (pv 0) pe_int (fun _ _ => rfl)) pe_int) pa_nil)) (pv 1))))) pss_nil)
    (pss_cons (ps_set (i := 2) sc_u_law_draw.nd rfl (Or.inl rfl) (pe_op op_modN (pe_callTy call_int1 (by rfl) T.n_int boot_int (pa_cons (pe_ix (r := rIxL K) ix_list (pv 0) pe_int (fun _ _ => rfl)) pa_nil)) (pv 1)))
    (pss_cons (ps_asg (pe_op op_fdivN (pe_ix (r := rIxL K) ix_list (pv 0) pe_int (fun _ _ => rfl)) (pv 1)) (pg_sub (pv 0) pe_int set_list))
    (pss_one (ps_ret (pv 2))))))), ?_⟩
  obtain ⟨v, at0, sd, ns, h1, h2, a0, a1, v0, sd0, sd1, h63⟩ := hst
  have ls : l ≠ s := St.ne_list h1 h2
  refine seq_join (fun σ' H' => σ' = [some (.ref s), some (.int m), none] ∧ But s H H' ∧ ∃ v at0 sd : Int, H' s = some (.lst [.int v, .ref l, .int at0, .int sd]) ∧ H' l = some (.lst (ns.map V.int)) ∧ 0 ≤ at0 ∧ at0 ≤ (ns.length : Int) ∧ 0 ≤ v ∧ 0 ≤ sd ∧ sd < 2147483648) ?_ (fun N cont => ?_)
  · rintro σ' H' ⟨rfl, b1, v, at0, sd, h1, h2, a0, a1, v0, sd0, sd1⟩
    refine seq_join (fun σ' H'' => σ' = [some (.ref s), some (.int m), none] ∧ H'' = H') ?_ (fun N cont => ?_)
    · rintro σ' H'' ⟨rfl, rfl⟩
      walk_at "rd"
      refine q _ _ (fmod_0 m1) (fmod_lt m1) (b1.trans (but_upd _)) ⟨_, at0, sd, ns, upd_same, ?_, a0, a1, ?_, sd0, sd1, h63⟩
      · rw [upd_ne ls]; exact h2
      · exact Int.fdiv_nonneg v0 (by omega)
    · walk_at "rd"
      refine ite2 (fun e => ?_) (fun e => cont _ _ ⟨rfl, rfl⟩)
      walk_at "rd"
      refine q _ _ (fmod_0 m1) (fmod_lt m1) (b1.trans (but_upd _)) ⟨_, at0, _, ns, upd_same, ?_, a0, a1, v0, ?_, ?_, h63⟩
      · rw [upd_ne ls]; exact h2
      · exact Int.emod_nonneg _ (by decide)
      · show (sd * 48271 + 7) % 2147483647 < _
        omega
  · walk_at "rd"
    refine ite2 (fun e => ?_) (fun e => ?_)
    · walk_at "rd"
      refine ite2 (fun e => ?_) (fun e => ?_)
      · have e := of_decide_eq_true e
        rw [List.length_map] at e
        obtain ⟨n, gat⟩ := at_int a0 e
        walk_at "rd"
        intro r r0
        walk_at "rd"

        refine cont _ _ ⟨rfl, (but_upd _).trans (but_upd _), _, _, sd, upd_same, ?_, ?_, ?_, r0, sd0, sd1⟩
        · rw [upd_ne ls, upd_ne ls]; exact h2
        · show 0 ≤ at0 + 1
          omega
        · show at0 + 1 ≤ _
          omega
      · exact cont _ _ ⟨rfl, But.refl _ _, v, at0, sd, h1, h2, a0, a1, v0, sd0, sd1⟩
    · exact cont _ _ ⟨rfl, But.refl _ _, v, at0, sd, h1, h2, a0, a1, v0, sd0, sd1⟩

/-! _law_name -/
def sp_u_law_name : Sp := fun vs H Q _ => ∃ (s l kn : Addr) (ws : List Str), vs = [.ref s, .ref kn] ∧ St H s l ∧ H kn = some (.lst (ws.map V.str)) ∧ ws.length ≤ 12 ∧ (∀ w ∈ ws, w.length ≤ 9) ∧ ∀ w H', But s H H' → St H' s l → w.length ≤ 30 → Q (.str w) H'
theorem ok_u_law_name (T : Tx K mg A) : FnOk P w K mg base CX0 (6) A.a_u_law_name A.d_u_law_name ["state", "known"] sp_u_law_name := by
  have G_u_law_draw := ok_u_law_draw (P := P) (w := w) (base := base) T
  refine T.F_u_law_name.ok sc_u_law_name (fun vs H Q E h => ?_) (fun cdv Ar outer s0 H vs Q E hr h => ?_)
  · obtain ⟨s, l, kn, ws, rfl, _⟩ := h; rfl
  obtain ⟨s, l, kn, ws, rfl, st, hk, hl, hw, q⟩ := h
  refine ⟨_, (pss_cons (ps_set (i := 2) sc_u_law_name.nd rfl (Or.inr rfl) pe_str)
    (pss_cons (ps_if (PW.pt (pw_and (pt_cmpR op_gt (pe_callB (r := rLenS K) j_len (by rfl) T.n_len PySem.boot_len (pa_cons (pv 1) pa_nil)) pe_int (nomark _)) (pw_and1 (pt_cmpR op_eq (pe_call G_u_law_draw (hr.mono (by omega)) rfl T.m_u_law_draw T.F_u_law_draw.kp T.b_u_law_draw .nil pass0 (pa_cons (pv 0) (pa_cons pe_int pa_nil))) pe_int (nomark _))))) (pss_one (ps_ret (pe_ix (r := rIxL K) ix_list (pv 1) (pe_call G_u_law_draw (hr.mono (by omega)) rfl T.m_u_law_draw T.F_u_law_draw.kp T.b_u_law_draw .nil pass0 (pa_cons (pv 0) (pa_cons (pe_callB (r := rLenS K) j_len (by rfl) T.n_len PySem.boot_len (pa_cons (pv 1) pa_nil)) pa_nil))) (fun _ _ => rfl)))) pss_nil)
    (pss_cons (ps_set (i := 3) sc_u_law_name.nd rfl (Or.inl rfl) (pe_op op_add pe_int (pe_call G_u_law_draw (hr.mono (by omega)) rfl T.m_u_law_draw T.F_u_law_draw.kp T.b_u_law_draw .nil pass0 (pa_cons (pv 0) (pa_cons pe_int pa_nil)))))
    (pss_cons (ps_if (pt_cmpR op_eq (pe_call G_u_law_draw (hr.mono (by omega)) rfl T.m_u_law_draw T.F_u_law_draw.kp T.b_u_law_draw .nil pass0 (pa_cons (pv 0) (pa_cons pe_int pa_nil))) pe_int (nomark _)) (pss_one (ps_set (i := 3) sc_u_law_name.nd rfl (Or.inl rfl) (pe_op op_mul pe_int (pe_call G_u_law_draw (hr.mono (by omega)) rfl T.m_u_law_draw T.F_u_law_draw.kp T.b_u_law_draw .nil pass0 (pa_cons (pv 0) (pa_cons pe_int pa_nil)))))) pss_nil)
    (pss_cons (ps_set (i := 4) sc_u_law_name.nd rfl (Or.inl rfl) (pe_join pe_str (pe_lc (own := [("k", 5)]) (by rfl) sc_u_law_name.nd (pi_range1 rfl T.n_range (pa_cons (pv 3) pa_nil)) (blkOk_by (own := [("k", 5)]) (N := ["state", "known", "letters", "size", "word", "k", "at"]) (sc := defScope s_u_law_name) (by decide +kernel)) (fun _ _ _ _ _ => (pg_name (i := 5) sc_u_law_name.nd rfl (Or.inl rfl))) (fun _ _ _ _ _ => pts_nil) (fun _ _ _ _ _ => (pe_ix ix_str (pv 2) (pe_call G_u_law_draw (hr.mono (by omega)) rfl T.m_u_law_draw T.F_u_law_draw.kp T.b_u_law_draw .nil pass0 (pa_cons (pv 0) (pa_cons pe_int pa_nil))) (fun _ _ => rfl))))))
    (pss_cons (ps_if (PW.pt (pw_and (pt_cmpR op_gt (pv 3) pe_int (nomark _)) (pw_and1 (pt_cmpR op_eq (pe_call G_u_law_draw (hr.mono (by omega)) rfl T.m_u_law_draw T.F_u_law_draw.kp T.b_u_law_draw .nil pass0 (pa_cons (pv 0) (pa_cons pe_int pa_nil))) pe_int (nomark _))))) (pss_cons (ps_set (i := 6) sc_u_law_name.nd rfl (Or.inl rfl) (pe_call G_u_law_draw (hr.mono (by omega)) rfl T.m_u_law_draw T.F_u_law_draw.kp T.b_u_law_draw .nil pass0 (pa_cons (pv 0) (pa_cons (pv 3) pa_nil))))
    (pss_one (ps_set (i := 4) sc_u_law_name.nd rfl (Or.inl rfl) (pe_op op_add_str (pe_op op_add_str (pe_slice sl_str (pv 4) po_none (po_some (pv 6))) (pe_ix ix_str pe_str (pe_call G_u_law_draw (hr.mono (by omega)) rfl T.m_u_law_draw T.F_u_law_draw.kp T.b_u_law_draw .nil pass0 (pa_cons (pv 0) (pa_cons pe_int pa_nil))) (fun _ _ => rfl))) (pe_slice sl_str (pv 4) (po_some (pe_op op_add (pv 6) pe_int)) po_none))))) pss_nil)
    (pss_one (ps_ret (pv 4))))))))), ?_⟩
  refine seq_join (t := tAsg _ _) (fun σ' H' => σ' = [some (.ref s), some (.ref kn), some (.str "abcdefghijklmnopqrstuvwxyz"), none, none, none, none] ∧ H' = H) ?_ (fun N cont => ?_)
  rotate_left
  · walk_at "rd"
    exact cont _ _ ⟨rfl, rfl⟩
  rintro σ' H' ⟨rfl, rfl⟩
  have kns : kn ≠ s := fun z => by obtain ⟨_, _, _, _, e0, _⟩ := st; rw [z, e0] at hk; have hk := congrArg List.head? (HO.lst.inj (Option.some.inj hk)); cases ws with | nil => cases hk | cons w r => cases hk
  refine seq_join (t := tIfS _ _ _) (fun σ' H2 => σ' = [some (.ref s), some (.ref kn), some (.str "abcdefghijklmnopqrstuvwxyz"), none, none, none, none] ∧ But s H' H2 ∧ St H2 s l) ?_ (fun N cont => ?_)
  rotate_left
  · walk_at "rd"
    refine ifD (fun c1 => ?_) (fun c1 => ?_)
    · walk_at "rd"
      refine ⟨s, l, 4, rfl, st, by decide, by decide, fun r H2 r0 r1 b2 st2 => ?_⟩
      walk_at "rd"
      refine ifEq (fun c2 => ?_) (fun c2 => ?_)
      · walk_at "rd"
        have hk2 := b2 _ _ hk kns
        walk_at "rd"
        have wl : (((ws.map V.str).length : Nat) : Int) = (ws.length : Int) := by rw [List.length_map]
        have wpos : 0 < ws.length := by rw [List.length_map] at c1; omega
        refine ⟨s, l, ((ws.map V.str).length : Int), rfl, st2, by omega, by omega, fun j H3 j0 j1 b3 st3 => ?_⟩
        obtain ⟨j, rfl⟩ := Int.eq_ofNat_of_zero_le j0
        have jl : j < ws.length := by omega
        have gj := List.getElem?_eq_getElem (l := ws) (i := j) (by omega)
        refine ⟨kn, _, _, .str ws[j], rfl, rfl, SqL.of (b3 _ _ hk2 kns), atI_nat (by rw [List.getElem?_map, gj]; rfl), ?_⟩
        exact q _ H3 (b2.trans b3) st3 (Nat.le_trans (hw _ (List.mem_of_getElem? gj)) (by decide))
      · exact cont _ _ ⟨rfl, b2, st2⟩
    · exact cont _ _ ⟨rfl, But.refl _ _, st⟩
  rintro σ' H2 ⟨rfl, b2, st2⟩
  walk_at "rd"
  refine ⟨s, l, 8, rfl, st2, by decide, by decide, fun z H3 z0 z1 b3 st3 => ?_⟩
  dsimp only [gName]
  refine ⟨1, z, rfl, rfl, ?_⟩
  refine at_state (t := tSeq (tIfS _ _ _) _) (σ' := [some (.ref s), some (.ref kn), some (.str "abcdefghijklmnopqrstuvwxyz"), some (.int (1 + z)), none, none, none]) rfl ?_
  refine seq_join (t := tIfS _ _ _) (fun σ' H4 => ∃ m : Nat, σ' = [some (.ref s), some (.ref kn), some (.str "abcdefghijklmnopqrstuvwxyz"), some (.int (m : Int)), none, none, none] ∧ m ≤ 9 ∧ But s H3 H4 ∧ St H4 s l) ?_ (fun N cont => ?_)
  rotate_left
  · walk_at "rd"
    refine ⟨s, l, 12, rfl, st3, by decide, by decide, fun r H4 r0 r1 b4 st4 => ?_⟩
    walk_at "rd"
    refine ifEq (fun c2 => ?_) (fun c2 => ?_)
    · walk_at "rd"
      refine ⟨s, l, 2, rfl, st4, by decide, by decide, fun r2 H5 r20 r21 b5 st5 => ?_⟩
      walk_at "rd"
      exact cont _ _ ⟨(9 * r2).toNat, by rw [Int.toNat_of_nonneg (by omega)]; rfl, by omega, b4.trans b5, st5⟩
    · exact cont _ _ ⟨(1 + z).toNat, by rw [Int.toNat_of_nonneg (by omega)], by omega, b4, st4⟩
  rintro σ' H4 ⟨m, rfl, hm, b4, st4⟩
  refine seq_join (t := tAsg _ _) (fun σ' H5 => ∃ w : Str, σ' = [some (.ref s), some (.ref kn), some (.str "abcdefghijklmnopqrstuvwxyz"), some (.int (m : Int)), some (.str w), none, none] ∧ w.length = m ∧ But s H4 H5 ∧ St H5 s l) ?_ (fun N cont => ?_)
  rotate_left
  · refine ⟨⟨_, rfl⟩, ?_⟩
    walk_at "rd"
    refine ⟨by omega, by omega, fun D hD => ?_⟩
    obtain ⟨sD, lD⟩ := st4.free hD
    refine lc_range (lo := 0) (n := m) (fun i H' => ∃ zs : List Str, H' D = some (.lst (zs.map V.str)) ∧ zs.length = i ∧ (∀ z ∈ zs, z.length = 1 ∧ Low z) ∧ But s H4 H' ∧ St H' s l) ?_ ?_ ?_
    · exact ⟨[], upd_same, rfl, (fun z hz => nomatch hz), but_same (same_new hD _), st4.upd sD lD⟩
    · rintro i H1 hi ⟨zs, hD1, hl1, hz, b1, st1⟩
      refine ⟨rfl, ?_⟩
      walk_at "rd"
      refine ⟨s, l, 26, rfl, st1, by decide, by decide, fun r H2 r0 r1 b2 st2 => ?_⟩
      refine ⟨_, _, _, rfl, rfl, by decide, abc_at r0 r1, ?_⟩
      have hD2 := b2 _ _ hD1 sD.symm
      refine ⟨_, hD2, ?_, zs ++ [⟨#[97 + r.toNat]⟩], ?_, ?_, ?_, (b1.trans b2).mut hD _, st2.upd sD lD⟩
      · rw [List.length_map]; exact Nat.lt_of_le_of_lt (show zs.length ≤ 1000 by omega) (by decide)
      · rw [upd_same, List.map_append]; rfl
      · rw [List.length_append, hl1]; rfl
      · intro z hz'
        rcases List.mem_append.mp hz' with h | h
        · exact hz z h
        · rw [List.mem_singleton.mp h]
          exact ⟨rfl, low_one (by omega)⟩
    · rintro H1 ⟨zs, hD1, hl1, hz, b1, st1⟩
      have j := join_low hz
      refine ⟨_, _, zs, rfl, rfl, .inl (SqL.of hD1), ?_, cont _ _ ⟨_, rfl, by rw [j.1, hl1], b1, st1⟩⟩
      rw [sum_ones fun z h => (hz z h).1]
      show zs.length + zs.length * 0 ≤ _
      omega
  rintro σ' H5 ⟨w, rfl, wl, b5, st5⟩
  have kall : But s H' H5 := b2.trans (b3.trans (b4.trans b5))
  walk_at "rd"
  refine ifD (fun c1 => ?_) (fun c1 => ?_)
  rotate_left
  · walk_at "rd"
    exact q w H5 kall st5 (by omega)
  walk_at "rd"
  refine ⟨s, l, 8, rfl, st5, by decide, by decide, fun r H6 r0 r1 b6 st6 => ?_⟩
  walk_at "rd"
  refine ifEq (fun c2 => ?_) (fun c2 => ?_)
  rotate_left
  · walk_at "rd"
    exact q w H6 (kall.trans b6) st6 (by omega)
  walk_at "rd"
  refine ⟨s, l, (m : Int), rfl, st6, by omega, by omega, fun a H7 a0 a1 b7 st7 => ?_⟩
  walk_at "rd"
  refine ⟨by rw [sizeLine_eq]; omega, ?_⟩
  walk_at "rd"
  refine ⟨s, l, 9, rfl, st7, by decide, by decide, fun c H8 c0 c9 b8 st8 => ?_⟩
  obtain ⟨c, rfl⟩ := Int.eq_ofNat_of_zero_le c0
  have l9 : (("A0 _-Zz9(" : Str).cps.toList).length = 9 := by decide +kernel
  have z9 : ("A0 _-Zz9(" : Str).length = 9 := by decide +kernel
  have cl1 := cutS_length w none (some a)
  have cl2 := cutS_length w (some (a + 1)) none
  have cat : ∀ x y : Str, (x ++ y).length = x.length + y.length := fun x y => by
    show (Array.size (_ ++ _)) = _
    rw [Array.size_append]; rfl
  refine ⟨_, _, _, rfl, rfl, by rw [z9, sizeLine_eq]; omega, atI_nat (List.getElem?_eq_getElem (by omega)), ?_⟩
  have one : ∀ k : Nat, (⟨#[k]⟩ : Str).length = 1 := fun _ => rfl
  refine ⟨_, _, rfl, rfl, by rw [one, sizeLine_eq]; omega, ?_⟩
  walk_at "rd"
  refine ⟨by rw [sizeLine_eq]; omega, ?_⟩
  walk_at "rd"
  refine ⟨by rw [cat, one, sizeLine_eq]; omega, ?_⟩
  walk_at "rd"
  exact q _ H8 (kall.trans (b6.trans (b7.trans b8))) st8 (by rw [cat, cat, one]; omega)

/-! _law_is_name -/
theorem ifDec {p : Prop} {d : Decidable p} {f : ¬ p → Prop} {g : p → Prop} (h1 : ∀ n, f n) (h2 : ∀ y, g y) : Decidable.rec (motive := fun _ => Prop) f g d := by
  cases d
  · exact h1 _
  · exact h2 _
def sp_u_law_is_name : Sp := fun vs H Q _ => ∃ (z : Str), vs = [.str z] ∧ z.length ≤ 1000 ∧ ∀ b H', Same H H' → (b = true ↔ NmOk z) → Q (.bl b) H'
theorem ok_u_law_is_name (T : Tx K mg A) : FnOk P w K mg base CX0 (1) A.a_u_law_is_name A.d_u_law_is_name ["word"] sp_u_law_is_name := by

  refine T.F_u_law_is_name.ok sc_u_law_is_name (fun vs H Q E h => ?_) (fun cdv Ar outer s0 H vs Q E hr h => ?_)
  · obtain ⟨z, rfl, _⟩ := h; rfl
  obtain ⟨z, rfl, hz, q⟩ := h
  refine ⟨_, (pss_cons (ps_for PassesOwn.never rfl (pi_str (pv 0)) (pg_name (i := 1) sc_u_law_is_name.nd rfl (Or.inl rfl)) (pss_one (ps_if (pt_cmpR op_notIn_sign (pv 1) pe_str rfl) (pss_one (ps_ret pe_bl)) pss_nil)))
    (pss_one (ps_ret (pe_chain op_le op_le pe_int (pe_callB call_len_str (by rfl) T.n_len PySem.boot_len (pa_cons (pv 0) pa_nil)) pe_int)))), ?_⟩
  walk_at "rd"
  refine for_it (walk_str (z := z)) (fun i σ' H' => ∃ x1, σ' = [some (.str z), x1] ∧ Same H H' ∧ ∀ j c, j < i → (cods z)[j]? = some c → c ∈ cods ("abcdefghijklmnopqrstuvwxyz" : Str)) ?_ ?_ ?_ ?_
  · exact ⟨none, rfl, Same.refl _, fun j c h => absurd h (Nat.not_lt_zero _)⟩
  · exact fun _ _ _ _ _ => trivial
  · rintro i x σ' H1 H2 hi ⟨x1, rfl, k1, hall⟩ ⟨rfl, c, gc, rfl⟩
    have gc : (cods z)[i]? = some c := by rw [Array.getElem?_toList]; exact gc
    walk_at "rd"
    refine ifDec (fun n => ?_) (fun y => ?_)
    · dsimp only [tNext]
      refine ⟨_, rfl, k1, fun j d hj gd => ?_⟩
      rcases Nat.lt_or_ge j i with h | h
      · exact hall j d h gd
      · rw [show j = i by omega, gc] at gd
        cases gd
        exact Classical.byContradiction fun m => n (by rw [decide_eq_false (show ¬ c ∈ (("abcdefghijklmnopqrstuvwxyz" : Str).cps.toList) from m)]; rfl)
    · dsimp only
      walk_at "rd"
      refine q false _ k1 ⟨(fun z => nomatch z), fun h => ?_⟩
      have := abc_of c (h.2.2 c (List.mem_of_getElem? gc))
      rw [decide_eq_true (show c ∈ (("abcdefghijklmnopqrstuvwxyz" : Str).cps.toList) from this)] at y
      cases y
  · rintro σ' H1 ⟨x1, rfl, k1, hall⟩
    have low : Low z := fun c hc => by
      obtain ⟨j, gj⟩ := List.mem_iff_getElem?.mp hc
      have hj := (List.getElem?_eq_some_iff.mp gj).1
      exact abc_in c (hall j c (by rw [← Array.length_toList]; exact hj) gj)
    walk_at "rd"
    refine ⟨Nat.le_trans hz (by decide), ?_⟩
    walk_at "rd"
    refine ifD (fun e1 => ?_) (fun e1 => ?_)
    · walk_at "rd"
      exact q _ H1 k1 ⟨fun h => ⟨by omega, by have := of_decide_eq_true h; omega, low⟩, fun h => decide_eq_true (by have := h.2.1; omega)⟩
    · exact q _ H1 k1 ⟨(fun z => nomatch z), fun h => absurd h.1 (by omega)⟩

/-! _law_due -/
def sp_u_law_due : Sp := fun vs H Q _ => ∃ (b : Addr) (es : List Opn) (nm : Str) (ar : Int) (cm : Bool), vs = [.ref b, .str nm, .int ar, .bl cm] ∧ BkAt H b es ∧ es.length ≤ 12 ∧ nm.length ≤ 1000 ∧
  (¬ NmOk nm → ∀ v H', Same H H' → RefAt H' v "name" → Q v H') ∧
  (NmOk nm → ¬ ArOk ar cm → ∀ v H', Same H H' → RefAt H' v "arity" → Q v H') ∧
  (NmOk nm → ArOk ar cm → nm ∈ es.map (·.nm) → ∀ v H', Same H H' → RefAt H' v "duplicate" → Q v H') ∧
  (NmOk nm → ArOk ar cm → nm ∉ es.map (·.nm) → es.length = 12 → ∀ v H', Same H H' → RefAt H' v "large" → Q v H') ∧
  (NmOk nm → ArOk ar cm → nm ∉ es.map (·.nm) → es.length < 12 → ∀ H', Same H H' → Q (.int (es.length : Int)) H')
theorem ok_u_law_due (T : Tx K mg A) : FnOk P w K mg base CX0 (3) A.a_u_law_due A.d_u_law_due ["accepted", "name", "arity", "flag"] sp_u_law_due := by
  have G_u_law_is_name := ok_u_law_is_name (P := P) (w := w) (base := base) T
  refine T.F_u_law_due.ok sc_u_law_due (fun vs H Q E h => ?_) (fun cdv Ar outer s0 H vs Q E hr h => ?_)
  · obtain ⟨b, es, nm, ar, cm, rfl, _⟩ := h; rfl
  obtain ⟨b, es, nm, ar, cm, rfl, bk, hl, hz, qN, qR, qD, qL, q⟩ := h
  refine ⟨_, (pss_cons (ps_if (pt_not (pt_truth (pe_call G_u_law_is_name (hr.mono (by omega)) rfl T.m_u_law_is_name T.F_u_law_is_name.kp T.b_u_law_is_name .nil pass0 (pa_cons (pv 1) pa_nil)) (by intro _; rfl))) (pss_one (ps_ret (pe_tup (pa_cons pe_str (pa_cons pe_str pa_nil))))) pss_nil)
    (pss_cons (ps_if (PW.pt (pw_or (pt_not (pt_chain op_le op_le pe_int (pv 2) pe_int)) (pw_or1 (PW.pt (pw_and (pt_val (pv 3)) (pw_and1 (pt_cmpR op_ne (pv 2) pe_int (nomark _)))))))) (pss_one (ps_ret (pe_tup (pa_cons pe_str (pa_cons pe_str pa_nil))))) pss_nil)
    (pss_cons (ps_if (pt_cmpR (r := rIn K false) op_in_seq (pv 1) (pe_lc (own := [("entry", 4)]) (by rfl) sc_u_law_due.nd (pi_list (pv 0)) (blkOk_by (own := [("entry", 4)]) (N := ["accepted", "name", "arity", "flag", "entry"]) (sc := defScope s_u_law_due) (by decide +kernel)) (fun _ _ _ _ _ => (pg_name (i := 4) sc_u_law_due.nd rfl (Or.inl rfl))) (fun _ _ _ _ _ => pts_nil) (fun _ _ _ _ _ => (pe_ix (r := rIxT K) ix_tup (pv 4) pe_int (fun _ _ => rfl)))) rfl) (pss_one (ps_ret (pe_tup (pa_cons pe_str (pa_cons pe_str pa_nil))))) pss_nil)
    (pss_cons (ps_if (pt_cmpR op_eq (pe_callB (r := rLenS K) j_len (by rfl) T.n_len PySem.boot_len (pa_cons (pv 0) pa_nil)) pe_int (nomark _)) (pss_one (ps_ret (pe_tup (pa_cons pe_str (pa_cons pe_str pa_nil))))) pss_nil)
    (pss_one (ps_ret (pe_callB (r := rLenS K) j_len (by rfl) T.n_len PySem.boot_len (pa_cons (pv 0) pa_nil)))))))), ?_⟩
  walk_at "rd"
  refine ⟨hz, fun b1 H1 s1 hb => ?_⟩
  refine ⟨b1, rfl, ?_⟩
  cases b1 with
  | false =>
    have nn : ¬ NmOk nm := fun z => nomatch hb.mpr z
    refine (if_pos rfl).mpr ?_
    walk_at "rd"
    refine ⟨show 2 ≤ sizeLine by decide, ?_⟩
    first | intro tn n2 | refine fun tn n2 => ?_
    generalize ehn : upd H1 tn _ = H2
    have s2 := J.al_same n2 ehn
    have h2 := J.al_at ehn
    clear ehn
    exact qN nn _ H2 (s1.trans s2) ⟨tn, rfl, h2⟩
  | true =>
  have ok1 := hb.mp rfl
  refine (if_neg (by decide)).mpr ?_
  dsimp only [tNext]
  have bad : ¬ ArOk ar cm → ∀ (H2 : Hp) (tn : Addr), Same H1 H2 → H2 tn = some (.tup [.str "refused", .str "arity"]) → Q (.ref tn) H2 := fun z H2 tn s2 h2 => qR ok1 z _ H2 (s1.trans s2) ⟨tn, rfl, h2⟩
  refine seq_join (t := tIfS _ _ _) (fun σ' H' => σ' = [some (.ref b), some (.str nm), some (.int ar), some (.bl cm), none] ∧ H' = H1 ∧ ArOk ar cm) ?_ (fun N cont => ?_)
  rotate_left
  · walk_at "rd"
    refine ifD (fun e1 => ?_) (fun e1 => ?_)
    · walk_at "rd"
      refine ifN (fun e2 => ?_) (fun e2 => ?_)
      · refine (if_pos rfl).mpr ?_
        walk_at "rd"
        refine ⟨show 2 ≤ sizeLine by decide, ?_⟩
        first | intro tn n2 | refine fun tn n2 => ?_
        generalize ehn : upd H1 tn _ = H2
        have s2 := J.al_same n2 ehn
        have h2 := J.al_at ehn
        clear ehn
        exact bad (fun z => absurd z.2.1 e2) H2 tn s2 h2
      cases cm with
      | true =>
        walk_at "rd"
        refine ifNe (fun e3 => ?_) (fun e3 => ?_)
        · walk_at "rd"
          refine ⟨show 2 ≤ sizeLine by decide, ?_⟩
          first | intro tn n2 | refine fun tn n2 => ?_
          generalize ehn : upd H1 tn _ = H2
          have s2 := J.al_same n2 ehn
          have h2 := J.al_at ehn
          clear ehn
          exact bad (fun z => e3 (z.2.2 rfl)) H2 tn s2 h2
        · exact cont _ _ ⟨rfl, rfl, e1, e2, fun _ => e3⟩
      | false =>
        walk_at "rd"
        refine (if_neg (fun z => nomatch z)).mpr ?_
        refine (if_neg (fun z => nomatch z)).mpr ?_
        exact cont _ _ ⟨rfl, rfl, e1, e2, fun z => nomatch z⟩
    · refine ⟨false, rfl, ?_⟩
      refine (if_pos rfl).mpr ?_
      walk_at "rd"
      refine ⟨show 2 ≤ sizeLine by decide, ?_⟩
      first | intro tn n2 | refine fun tn n2 => ?_
      generalize ehn : upd H1 tn _ = H2
      have s2 := J.al_same n2 ehn
      have h2 := J.al_at ehn
      clear ehn
      exact bad (fun z => absurd z.1 e1) H2 tn s2 h2
  rintro σ' H1' ⟨rfl, e1, aok⟩
  have e1 := e1.symm
  subst e1
  obtain ⟨as, hb0, hlb, hat⟩ := bk
  have hb1 := s1 _ _ hb0
  walk_at "rd"
  refine ⟨⟨_, SqL.of hb1⟩, fun D hD => ?_⟩
  refine lc_list (K := K) (a := b) (xs := as.map V.ref) (fun i H' => H' D = some (.lst (((es.take i).map (·.nm)).map V.str)) ∧ Same H1 H') ?_ ?_ ?_ ?_
  · exact ⟨upd_same, same_new hD _⟩
  · rintro i H' hi ⟨hd', bb⟩
    exact SqL.of (bb _ _ hb1)
  · rintro i y H' hi ⟨hd', bb⟩
    have hia : i < as.length := by
      have := (List.getElem?_eq_some_iff.mp hi).1
      simpa using this
    have hie : i < es.length := by omega
    have ge := List.getElem?_eq_getElem hie
    have gy : y = .ref as[i] := by
      rw [List.getElem?_map, List.getElem?_eq_getElem hia] at hi
      exact (Option.some.inj hi).symm
    subst gy
    have ht := bb _ _ (s1 _ _ (hat i _ _ ge (List.getElem?_eq_getElem hia)))
    refine ⟨rfl, ?_⟩
    walk_at "rd"
    refine ⟨_, hd', by rw [List.length_map, List.length_map, List.length_take, sizeLine_eq]; omega, ?_, same_mut bb hD _⟩
    rw [upd_same, list_take_succ ge, List.map_append, List.map_append]; rfl
  · rintro H' ⟨hd', bb⟩
    rw [List.length_map, hlb, List.take_length] at hd'
    have hb2 := bb _ _ hb1
    have s2 := s1.trans bb
    walk_at "rd"
    refine ⟨by rw [List.all_map]; exact List.all_eq_true.mpr fun _ _ => rfl, ?_⟩
    refine ⟨decide (nm ∈ es.map (·.nm)), congrArg V.bl ((if_neg (fun z => nomatch z)).trans (inV_strs nm _)), ?_⟩
    refine ifD (fun c1 => ?_) (fun c1 => ?_)
    · walk_at "rd"
      refine ⟨show 2 ≤ sizeLine by decide, ?_⟩
      first | intro tn n3 | refine fun tn n3 => ?_
      generalize ehn : upd H' tn _ = H3
      have s3 := J.al_same n3 ehn
      have h3 := J.al_at ehn
      clear ehn
      exact qD ok1 aok c1 _ H3 (s2.trans s3) ⟨tn, rfl, h3⟩
    walk_at "rd"
    refine ifDec (fun c2 => ?_) (fun c2 => ?_)
    · dsimp only [tNext]
      have c2 : ¬ ((as.map V.ref).length : Int) = 12 := fun z => c2 (decide_eq_true (congrArg V.int z))
      rw [List.length_map, hlb] at c2
      walk_at "rd"
      have e := q ok1 aok c1 (by omega) H' s2
      rw [← hlb, ← List.length_map (as := as) (f := V.ref)] at e
      exact e
    · have c2 : ((as.map V.ref).length : Int) = 12 := by have := of_decide_eq_true c2; injection this
      rw [List.length_map, hlb] at c2
      dsimp only
      walk_at "rd"
      refine ⟨show 2 ≤ sizeLine by decide, ?_⟩
      first | intro tn n3 | refine fun tn n3 => ?_
      generalize ehn : upd H' tn _ = H3
      have s3 := J.al_same n3 ehn
      have h3 := J.al_at ehn
      clear ehn
      exact qL ok1 aok c1 (by omega) _ H3 (s2.trans s3) ⟨tn, rfl, h3⟩

/-! _law_unknown -/
def sp_u_law_unknown (C : Addr) : Sp := fun vs H Q _ => ∃ (p dx n d1 d2 d3 : Addr) (es : List Opn) (f : Str), vs = [.ref p, .str f] ∧ SigAt C H p dx n d1 d2 d3 es ∧ f ∉ es.map (·.nm) ∧ ∀ H', Same H H' → Q (.bl true) H'
theorem ok_u_law_unknown (T : Tx K mg A) : FnOk P w K mg base CX0 10 A.a_u_law_unknown A.d_u_law_unknown ["signature", "name"] (sp_u_law_unknown A.c_Signature) := by
  have G_Signature_arity := ok_Signature_arity (P := P) (w := w) (base := base) T
  refine T.F_u_law_unknown.ok sc_u_law_unknown (fun vs H Q E h => ?_) (fun cdv Ar outer s0 H vs Q E hr h => ?_)
  · obtain ⟨p, dx, n, d1, d2, d3, es, f, rfl, _⟩ := h; rfl
  obtain ⟨p, dx, n, d1, d2, d3, es, f, rfl, sg, nin, q⟩ := h
  refine ⟨_, (pss_cons (ps_try_as (i := 2) rfl rfl sc_u_law_unknown.nd rfl rfl ⟨rfl, by decide, .inl T.E_UnknownName.gC⟩ takes0 (fun W pn xe tk _ => (pss_one (ps_expr (pe_methS (pv 0) T.K_Signature T.H_Signature_arity G_Signature_arity (hr.mono (by omega)) T.b_Signature_arity (fun σ => passAt tk σ) (pa_cons (pv 1) pa_nil))))) (fun ea oe cls d pn hz hf => pss_assume (p := cls = .ref A.c_UnknownName) fun hp => (pss_one (ps_ret (pe_cmpR op_eq (pe_xf T.E_UnknownName.xC T.nf_name_UnknownName hz hf (pv 2)) (pv 1) (nomark _))))))
    (pss_one (ps_ret pe_bl))), ?_⟩
  have ar0 : arOf es f = none := by
    cases e : arOf es f with
    | none => rfl
    | some a => obtain ⟨j, x, gj, e1, _⟩ := arOf_some e; exact absurd (List.mem_map.mpr ⟨x, List.mem_of_getElem? gj, e1⟩) nin
  walk_at "rd"
  refine ⟨p, dx, _, rfl, sg.ob, sg_no _ _ _ _ (by decide +kernel) (by decide +kernel) (by decide +kernel) (by decide +kernel), ?_⟩
  walk_at "rd"
  refine ⟨p, dx, n, d1, d2, d3, es, f, rfl, sg, (fun a z => nomatch ar0.symm.trans z), fun _ dd H1 s1 hdd => ?_⟩
  refine ⟨true, T.E_UnknownName.eC, fun _ e he => ⟨rfl, ?_⟩, fun z => nomatch z⟩
  walk_at "rd"
  refine ⟨dd, _, .str f, rfl, hdd, rfl, ?_⟩
  walk_at "rd"
  rw [decide_eq_true rfl]
  exact q H1 s1

/-! _law_tells -/
def sp_u_law_tells : Sp := fun vs H Q _ => ∃ (a b : Bool), vs = [.bl a, .bl b] ∧ Q (.bl (a == b)) H
theorem ok_u_law_tells (T : Tx K mg A) : FnOk P w K mg base CX0 (1) A.a_u_law_tells A.d_u_law_tells ["actual", "due"] sp_u_law_tells := by

  refine T.F_u_law_tells.ok sc_u_law_tells (fun vs H Q E h => ?_) (fun cdv Ar outer s0 H vs Q E hr h => ?_)
  · obtain ⟨a, b, rfl, _⟩ := h; rfl
  obtain ⟨a, b, rfl, q⟩ := h
  refine ⟨_, (pss_cons (ps_if (pt_val (pv 1)) (pss_one (ps_ret (pe_cmpR op_isBl (pv 0) pe_bl (nomark _)))) pss_nil)
    (pss_one (ps_ret (pe_cmpR op_isBl (pv 0) pe_bl (nomark _))))), ?_⟩
  cases a <;> cases b
  · walk_at "rd"
    exact q
  · walk_at "rd"
    exact q
  · walk_at "rd"
    exact q
  · walk_at "rd"
    exact q

/-! _law_agrees -/
def sp_u_law_agrees (C : Addr) : Sp := fun vs H Q _ => ∃ (p dx n d1 d2 d3 b : Addr) (es : List Opn), vs = [.ref p, .ref b] ∧ SigAt C H p dx n d1 d2 d3 es ∧ BkAt H b es ∧ es.length ≤ 12 ∧ (∀ e ∈ es, OpnOk e) ∧ ∀ H', Same H H' → Q (.bl true) H'
theorem ok_u_law_agrees (T : Tx K mg A) : FnOk P w K mg base CX0 12 A.a_u_law_agrees A.d_u_law_agrees ["signature", "accepted"] (sp_u_law_agrees A.c_Signature) := by
  have G_Signature___contains := ok_Signature___contains (P := P) (w := w) (base := base) T
  have G_Signature___iter := ok_Signature___iter (P := P) (w := w) (base := base) T
  have G_Signature___len := ok_Signature___len (P := P) (w := w) (base := base) T
  have G_Signature_arity := ok_Signature_arity (P := P) (w := w) (base := base) T
  have G_Signature_constants := ok_Signature_constants (P := P) (w := w) (base := base) T
  have G_Signature_is_commutative := ok_Signature_is_commutative (P := P) (w := w) (base := base) T
  have G_Signature_rank := ok_Signature_rank (P := P) (w := w) (base := base) T
  have G_u_law_tells := ok_u_law_tells (P := P) (w := w) (base := base) T
  have G_u_law_unknown := ok_u_law_unknown (P := P) (w := w) (base := base) T
  refine T.F_u_law_agrees.ok sc_u_law_agrees (fun vs H Q E h => ?_) (fun cdv Ar outer s0 H vs Q E hr h => ?_)
  · obtain ⟨p, dx, n, d1, d2, d3, b, es, rfl, _⟩ := h; rfl
  obtain ⟨p, dx, n, d1, d2, d3, b, es, rfl, sg, bk, hl, hok, q⟩ := h
  refine ⟨_, (pss_cons (ps_if (PW.pt (pw_or (pt_cmpR op_ne (pe_callB (call_lenO T.O_Signature___len G_Signature___len (hr.mono (by omega)) T.b_Signature___len pass0) (by rfl) T.n_len PySem.boot_len (pa_cons (pv 0) pa_nil)) (pe_callB (r := rLenS K) j_len (by rfl) T.n_len PySem.boot_len (pa_cons (pv 1) pa_nil)) (nomark _)) (pw_or1 (pt_cmpR (r := rNeD K) (op_neD hr.units) (pe_callTy (call_listO T.O_Signature___iter T.O_Signature___len G_Signature___iter G_Signature___len T.b_Signature___iter T.b_Signature___len (hr.mono (by omega))) (by rfl) T.n_list boot_list (pa_cons (pv 0) pa_nil)) (pe_lc (own := [("entry", 2)]) (by rfl) sc_u_law_agrees.nd (pi_list (pv 1)) (blkOk_by (own := [("entry", 2)]) (N := ["signature", "accepted", "entry", "k", "name", "arity", "flag"]) (sc := defScope s_u_law_agrees) (by decide +kernel)) (fun _ _ _ _ _ => (pg_name (i := 2) sc_u_law_agrees.nd rfl (Or.inl rfl))) (fun _ _ _ _ _ => pts_nil) (fun _ _ _ _ _ => (pe_ix (r := rIxT K) ix_tup (pv 2) pe_int (fun _ _ => rfl)))) (nomark _))))) (pss_one (ps_ret pe_bl)) pss_nil)
    (pss_cons (ps_if (pt_cmpR (r := rNeD K) (op_neD hr.units) (pe_meth0 (pv 0) T.K_Signature T.H_Signature_constants G_Signature_constants (hr.mono (by omega)) T.b_Signature_constants .nil pass0) (pe_lc (own := [("entry", 2)]) (by rfl) sc_u_law_agrees.nd (pi_list (pv 1)) (blkOk_by (own := [("entry", 2)]) (N := ["signature", "accepted", "entry", "k", "name", "arity", "flag"]) (sc := defScope s_u_law_agrees) (by decide +kernel)) (fun _ _ _ _ _ => (pg_name (i := 2) sc_u_law_agrees.nd rfl (Or.inl rfl))) (fun _ _ _ _ _ => (pts_one (pt_cmpR op_eq (pe_ix (r := rIxT K) ix_tup (pv 2) pe_int (fun _ _ => rfl)) pe_int (nomark _)))) (fun _ _ _ _ _ => (pe_ix (r := rIxT K) ix_tup (pv 2) pe_int (fun _ _ => rfl)))) (nomark _)) (pss_one (ps_ret pe_bl)) pss_nil)
    (pss_cons (ps_for PassesOwn.never rfl (pi_range1 rfl T.n_range (pa_cons (pe_callB (r := rLenS K) j_len (by rfl) T.n_len PySem.boot_len (pa_cons (pv 1) pa_nil)) pa_nil)) (pg_name (i := 3) sc_u_law_agrees.nd rfl (Or.inl rfl)) (pss_cons (ps_asg (pe_ix (r := rIxL K) ix_list (pv 1) (pv 3) (fun _ _ => rfl)) (pg_tup (by rfl) (pgs_cons (pg_name (i := 4) sc_u_law_agrees.nd rfl (Or.inl rfl)) (pgs_cons (pg_name (i := 5) sc_u_law_agrees.nd rfl (Or.inl rfl)) (pgs_cons (pg_name (i := 6) sc_u_law_agrees.nd rfl (Or.inl rfl)) pgs_nil)))))
    (pss_cons (ps_if (PW.pt (pw_or (pt_cmp (pc_notInO T.O_Signature___contains G_Signature___contains (hr.mono (by omega)) T.b_Signature___contains pass0 (pv 4) (pv 0))) (pw_or (pt_cmpR op_ne (pe_methS (pv 0) T.K_Signature T.H_Signature_arity G_Signature_arity (hr.mono (by omega)) T.b_Signature_arity no_raise (pa_cons (pv 4) pa_nil)) (pv 5) (nomark _)) (pw_or1 (pt_cmpR op_ne (pe_meth (pv 0) T.K_Signature T.H_Signature_rank G_Signature_rank (hr.mono (by omega)) T.b_Signature_rank .nil pass0 (pa_cons (pv 4) pa_nil)) (pv 3) (nomark _)))))) (pss_one (ps_ret pe_bl)) pss_nil)
    (pss_one (ps_if (pt_not (pt_val (pe_call G_u_law_tells (hr.mono (by omega)) rfl T.m_u_law_tells T.F_u_law_tells.kp T.b_u_law_tells .nil pass0 (pa_cons (pe_meth (pv 0) T.K_Signature T.H_Signature_is_commutative G_Signature_is_commutative (hr.mono (by omega)) T.b_Signature_is_commutative .nil pass0 (pa_cons (pv 4) pa_nil)) (pa_cons (pv 6) pa_nil))))) (pss_one (ps_ret pe_bl)) pss_nil)))))
    (pss_one (ps_ret (pe_and (pe_cmp (pc_notInO T.O_Signature___contains G_Signature___contains (hr.mono (by omega)) T.b_Signature___contains pass0 pe_str (pv 0)) rfl) (pe_one (pe_call G_u_law_unknown (hr.mono (by omega)) rfl T.m_u_law_unknown T.F_u_law_unknown.kp T.b_u_law_unknown .nil pass0 (pa_cons (pv 0) (pa_cons pe_str pa_nil)))))))))), ?_⟩
  obtain ⟨as, hb, hlb, hat⟩ := bk
  walk_at "rd"
  refine ⟨p, dx, _, rfl, sg.ob, p, dx, n, d1, d2, d3, es, rfl, sg, es.length, rfl, by omega, ?_⟩
  walk_at "rd"
  have elen : ((es.length : Nat) : Int) = ((as.map V.ref).length : Int) := by rw [List.length_map, hlb]
  refine ifDec (fun c1 => ?_) (fun c1 => ?_)
  rotate_left
  · rw [elen, decide_eq_true rfl] at c1; cases c1
  dsimp only
  walk_at "rd"
  refine ⟨p, dx, _, n, _, rfl, sg.ob, sg.nl, by rw [List.length_map, List.length_map]; omega, fun S nS => ?_⟩
  generalize ehn : upd H S (.lst []) = H2
  have s2 := J.al_same nS ehn
  clear ehn
  have sg2 := sg.same s2
  refine ⟨⟨p, dx, n, d1, d2, d3, es, rfl, sg2, fun it hn => ⟨it, rfl, hn, rfl⟩⟩, fun it hn => ⟨p, dx, n, d1, d2, d3, es, rfl, sg2.same (J.al_same hn rfl), es.length, rfl, by omega, rfl⟩, ?_⟩
  generalize ehn : upd H S _ = H3
  have s3 := J.al_same nS ehn
  have h3 := J.al_at ehn
  clear ehn
  have hb3 := s3 _ _ hb
  have hel : ∀ {i : Nat} {y : V}, (as.map V.ref)[i]? = some y → ∃ (hi : i < es.length) (a : Addr), y = .ref a ∧ H a = some (.tup [.str es[i].nm, .int (es[i].ar : Int), .bl es[i].cm]) := fun {i y} gi => by
    have hia : i < as.length := by
      have := (List.getElem?_eq_some_iff.mp gi).1
      simpa using this
    have hie : i < es.length := by omega
    rw [List.getElem?_map, List.getElem?_eq_getElem hia] at gi
    exact ⟨hie, as[i], (Option.some.inj gi).symm, hat i _ _ (List.getElem?_eq_getElem hie) (List.getElem?_eq_getElem hia)⟩
  walk_at "rd"
  refine ⟨⟨_, SqL.of hb3⟩, fun D hD => ?_⟩
  refine lc_list (K := K) (a := b) (xs := as.map V.ref) (fun i H' => H' D = some (.lst (((es.take i).map (·.nm)).map V.str)) ∧ Same H3 H') ?_ ?_ ?_ ?_
  · exact ⟨upd_same, same_new hD _⟩
  · rintro i H' hi ⟨hd', bb⟩
    exact SqL.of (bb _ _ hb3)
  · rintro i y H' gi ⟨hd', bb⟩
    obtain ⟨hie, a, rfl, ht⟩ := hel gi
    have ge := List.getElem?_eq_getElem hie
    have ht := bb _ _ (s3 _ _ ht)
    refine ⟨rfl, ?_⟩
    walk_at "rd"
    refine ⟨_, hd', by rw [List.length_map, List.length_map, List.length_take, sizeLine_eq]; omega, ?_, same_mut bb hD _⟩
    rw [upd_same, list_take_succ ge, List.map_append, List.map_append]; rfl
  rintro H4 ⟨hd4, s4⟩
  rw [List.length_map, hlb, List.take_length] at hd4
  have hS4 := s4 _ _ h3
  have lay : ∀ l : List Str, (∀ x ∈ l, ∃ e ∈ es, e.nm = x) → (PyData.list (l.map PyData.str)).canLay0 = true ∧ SeqAt.shaped (.list (l.map PyData.str)) = true := fun l hlw => by
    have h : ∀ x ∈ l, PySem.PyData.strOk x = true := fun x hx => by
      obtain ⟨e, he, rfl⟩ := hlw x hx
      exact low_ok (hok e he).low
    exact ⟨(strsD_lay l h).1, strsD_shaped l h⟩
  have lay1 := lay (es.map (·.nm)) (fun x hx => List.mem_map.mp hx)
  refine ⟨_, _, .lst (SqL.of hS4) (strsD_dp _), .lst (SqL.of hd4) (strsD_dp _), lay1.2, lay1.2, ?_⟩
  rw [SeqAt.eqv_refl _ lay1.1]
  refine ⟨false, rfl, ?_⟩
  have k4 : Same H H4 := s3.trans s4
  have sg4 := sg.same k4
  have nmc : ∀ m : Str, (m == ("_names" : Str)) = false → (m == ("_arities" : Str)) = false → (m == ("_ranks" : Str)) = false → (m == ("_flags" : Str)) = false → ([(("_names" : Str), V.ref n), (("_arities" : Str), V.ref d1), (("_ranks" : Str), V.ref d2), (("_flags" : Str), V.ref d3)] : List (Str × V)).lookup m = none := fun m => sg_no _ _ _ _
  dsimp only
  walk_at "rd"
  refine ⟨p, dx, _, rfl, sg4.ob, nmc _ (by decide +kernel) (by decide +kernel) (by decide +kernel) (by decide +kernel), ?_⟩
  walk_at "rd"
  refine ⟨p, dx, n, d1, d2, d3, es, rfl, sg4, hl, fun c H5 s5 nc hc => ?_⟩
  have k5 := k4.trans s5
  have hb5 := k5 _ _ hb
  walk_at "rd"
  refine ⟨⟨_, SqL.of hb5⟩, fun D2 hD2 => ?_⟩
  have fe : ∀ (i : Nat) (hie : i < es.length), ((es.take (i + 1)).filter fun e => decide (e.ar = 0)) = ((es.take i).filter fun e => decide (e.ar = 0)) ++ (if es[i].ar = 0 then [es[i]] else []) := fun i hie => by
    rw [list_take_succ (List.getElem?_eq_getElem hie), List.filter_append]
    congr 1
    by_cases z : es[i].ar = 0
    · rw [if_pos z]; simp [z]
    · rw [if_neg z]; simp [z]
  refine lc_list (K := K) (a := b) (xs := as.map V.ref) (fun i H' => H' D2 = some (.lst ((((es.take i).filter fun e => decide (e.ar = 0)).map (·.nm)).map V.str)) ∧ Same H5 H') ?_ ?_ ?_ ?_
  · exact ⟨upd_same, same_new hD2 _⟩
  · rintro i H' hi ⟨hd', bb⟩
    exact SqL.of (bb _ _ hb5)
  · rintro i y H' gi ⟨hd', bb⟩
    obtain ⟨hie, a, rfl, ht⟩ := hel gi
    have ge := List.getElem?_eq_getElem hie
    have ht := bb _ _ (k5 _ _ ht)
    have fe := fe i hie
    have ln : (((es.take i).filter fun e => decide (e.ar = 0)).map (·.nm)).length ≤ 12 := by
      rw [List.length_map]
      exact Nat.le_trans (List.length_filter_le _ _) (by rw [List.length_take]; omega)
    refine ⟨rfl, ?_⟩
    walk_at "rd"
    refine ifEq (fun z => ?_) (fun z => ?_)
    · walk_at "rd"
      rw [if_pos (by omega)] at fe
      refine ⟨_, hd', by rw [List.length_map, sizeLine_eq]; omega, ?_, same_mut bb hD2 _⟩
      rw [upd_same, fe, List.map_append, List.map_append]; rfl
    · rw [if_neg (by omega), List.append_nil] at fe
      rw [fe]
      exact ⟨hd', bb⟩
  rintro H6 ⟨hd6, s6⟩
  rw [List.length_map, hlb, List.take_length] at hd6
  have lay2 := lay ((es.filter fun e => decide (e.ar = 0)).map (·.nm)) (fun x hx => by
    obtain ⟨e, he, h⟩ := List.mem_map.mp hx
    exact ⟨e, (List.mem_filter.mp he).1, h⟩)
  refine ⟨_, _, .lst (SqL.of (s6 _ _ hc)) (strsD_dp _), .lst (SqL.of hd6) (strsD_dp _), lay2.2, lay2.2, ?_⟩
  rw [SeqAt.eqv_refl _ lay2.1]
  refine ⟨false, rfl, ?_⟩
  have k6 := k5.trans s6
  dsimp only
  walk_at "rd"
  have hb6 := k6 _ _ hb
  have sg6 := sg.same k6
  refine ⟨b, _, rfl, .inl (SqL.of hb6), ?_⟩
  rw [List.length_map, hlb]
  walk_at "rd"
  refine ⟨by omega, by omega, for_range (lo := 0) (n := es.length) (fun i σ' H' => ∃ x2 x3 x4 x5 x6, σ' = [some (.ref p), some (.ref b), x2, x3, x4, x5, x6] ∧ H' = H6) ?_ ?_ ?_⟩
  · exact ⟨_, _, _, _, _, rfl, rfl⟩
  · rintro i σ' H7 hi ⟨x2, x3, x4, x5, x6, rfl, e7⟩
    have e7 := e7.symm
    subst e7
    have hia : i < as.length := by omega
    have gi : (as.map V.ref)[i]? = some (.ref as[i]) := by rw [List.getElem?_map, List.getElem?_eq_getElem hia]; rfl
    have ge := List.getElem?_eq_getElem hi
    have ht := k6 _ _ (hat i _ _ ge (List.getElem?_eq_getElem hia))
    have me := List.getElem_mem hi
    have e0 : (0 : Int) + (i : Int) = ((i : Nat) : Int) := by omega
    generalize es[i] = e at *
    walk_at "rd"
    refine ⟨b, _, _, _, rfl, rfl, SqL.of hb6, by rw [e0]; exact atI_nat gi, ?_⟩
    refine ⟨_, _, rfl, SqT.of ht, rfl, _, _, rfl, _, _, rfl, _, _, rfl, rfl, ?_⟩
    walk_at "rd"
    refine ⟨p, dx, _, rfl, sg6.ob, p, dx, n, d1, d2, d3, es, e.nm, rfl, sg6, fun bb hbb => ⟨bb, rfl, ?_⟩⟩
    have hbb : bb = true := hbb.mpr (List.mem_map.mpr ⟨e, me, rfl⟩)
    subst hbb
    walk_at "rd"
    refine ⟨p, dx, _, rfl, sg6.ob, nmc _ (by decide +kernel) (by decide +kernel) (by decide +kernel) (by decide +kernel), ?_⟩
    walk_at "rd"
    have va := (arOf_val sg.nd e.nm).symm.trans (kv_some (g := fun e => V.int (e.ar : Int)) sg.nd me)
    refine ⟨p, dx, n, d1, d2, d3, es, e.nm, rfl, sg6, fun a0 ha0 => ?_, fun z => by rw [z] at va; cases va⟩
    rw [ha0] at va
    have va : ((a0 : Nat) : Int) = (e.ar : Int) := by injection (Option.some.inj va)
    walk_at "rd"
    refine ifNe (fun z => absurd va z) (fun _ => ?_)
    walk_at "rd"
    refine ⟨p, dx, _, rfl, sg6.ob, nmc _ (by decide +kernel) (by decide +kernel) (by decide +kernel) (by decide +kernel), ?_⟩
    walk_at "rd"
    refine ⟨p, dx, n, d1, d2, d3, es, e, i, rfl, sg6, ge, ?_⟩
    walk_at "rd"
    refine ifNe (fun z => absurd e0.symm z) (fun _ => ?_)
    walk_at "rd"
    refine ⟨p, dx, _, rfl, sg6.ob, nmc _ (by decide +kernel) (by decide +kernel) (by decide +kernel) (by decide +kernel), ?_⟩
    walk_at "rd"
    refine ⟨p, dx, n, d1, d2, d3, es, e, rfl, sg6, me, ?_⟩
    walk_at "rd"
    refine ⟨e.cm, e.cm, rfl, ?_⟩
    rw [beq_self_eq_true]
    walk_at "rd"
    exact ⟨_, _, _, _, _, rfl, rfl⟩
  · rintro σ' H7 ⟨x2, x3, x4, x5, x6, rfl, e7⟩
    have e7 := e7.symm
    subst e7
    have nz : ("zzzzzzzzz" : Str) ∉ es.map (·.nm) := fun z => by
      obtain ⟨e, he, h⟩ := List.mem_map.mp z
      have h1 := (hok e he).hi
      have h2 : ("zzzzzzzzz" : Str).length = 9 := by decide +kernel
      rw [show e.nm = ("zzzzzzzzz" : Str) from h, h2] at h1
      omega
    walk_at "rd"
    refine ⟨p, dx, _, rfl, sg6.ob, p, dx, n, d1, d2, d3, es, _, rfl, sg6, fun bb hbb => ⟨bb, rfl, ?_⟩⟩
    have hbb : bb = false := by
      cases bb with
      | false => rfl
      | true => exact absurd (hbb.mp rfl) nz
    subst hbb
    walk_at "rd"
    refine ⟨p, dx, n, d1, d2, d3, es, _, rfl, sg6, nz, fun H7 s7 => ?_⟩
    exact q H7 (k6.trans s7)

/-! _law_is_integer -/
def sp_u_law_is_integer : Sp := fun vs H Q _ => ∃ n : Int, vs = [.int n] ∧ Q (.bl true) H
theorem ok_u_law_is_integer (T : Tx K mg A) : FnOk P w K mg base CX0 (1) A.a_u_law_is_integer A.d_u_law_is_integer ["actual"] sp_u_law_is_integer := by

  refine T.F_u_law_is_integer.ok sc_u_law_is_integer (fun vs H Q E h => ?_) (fun cdv Ar outer s0 H vs Q E hr h => ?_)
  · obtain ⟨n, rfl, _⟩ := h; rfl
  obtain ⟨n, rfl, q⟩ := h
  refine ⟨_, (pss_one (ps_ret (pe_and (pe_callB (r := rIsi K) call_isi (by rfl) T.n_isinstance boot_isinstance (pa_cons (pv 0) (pa_cons (pe_bltn (v := .ty "int") (by rfl) T.n_int boot_int rfl) pa_nil))) (pe_one (pe_not (pe_callB (r := rIsi K) call_isi (by rfl) T.n_isinstance boot_isinstance (pa_cons (pv 0) (pa_cons (pe_bltn (v := .ty "bool") (by rfl) T.n_bool boot_bool rfl) pa_nil)))))))), ?_⟩
  walk_at "ri"
  exact q

/-! law -/
structure Sd where
  p : Addr
  dx : Addr
  n : Addr
  d1 : Addr
  d2 : Addr
  d3 : Addr
  b : Addr
structure Two (C : Addr) (H : Hp) (s l gl bl : Addr) (S : Bool → Sd) (es : Bool → List Opn) : Prop where
  st : St H s l
  hg : H gl = some (.lst [.ref (S false).p, .ref (S true).p])
  hb : H bl = some (.lst [.ref (S false).b, .ref (S true).b])
  sg : ∀ w, SigAt C H (S w).p (S w).dx (S w).n (S w).d1 (S w).d2 (S w).d3 (es w)
  bk : ∀ w, BkAt H (S w).b (es w)
  ln : ∀ w, (es w).length ≤ 12
  ok : ∀ w, ∀ e ∈ es w, OpnOk e
structure Sep (s l gl bl : Addr) (S : Bool → Sd) : Prop where
  gs : gl ≠ s
  bs : bl ≠ s
  n4 : ∀ w, (S w).n ∉ [s, l, gl, bl]
  b4 : ∀ w, (S w).b ∉ [s, l, gl, bl]
  nn : ∀ w, (S w).n ≠ (S (!w)).n
  bb : ∀ w, (S w).b ≠ (S (!w)).b
  nb : ∀ w v, (S w).n ≠ (S v).b
  dd : ∀ w, ∀ a ∈ [(S w).d1, (S w).d2, (S w).d3], a ∉ [(S (!w)).d1, (S (!w)).d2, (S (!w)).d3]
theorem BkAt.keep {H H' : Hp} {b : Addr} {es : List Opn} (h : BkAt H b es) (k : ∀ o, H b = some o → H' b = some o) (t : ∀ a xs, H a = some (.tup xs) → H' a = some (.tup xs)) : BkAt H' b es := by
  obtain ⟨as, h1, h2, h3⟩ := h
  exact ⟨as, k _ h1, h2, fun k e a x y => t _ _ (h3 k e a x y)⟩
theorem Two.same {C : Addr} {H H' : Hp} {s l gl bl : Addr} {S : Bool → Sd} {es : Bool → List Opn} (h : Two C H s l gl bl S es) (k : Same H H') : Two C H' s l gl bl S es :=
  ⟨h.st.same k, k _ _ h.hg, k _ _ h.hb, fun w => (h.sg w).same k, fun w => (h.bk w).keep (fun o e => k _ _ e) (fun a xs e => k _ _ e), h.ln, h.ok⟩
theorem Two.draw {C : Addr} {H H' : Hp} {s l gl bl : Addr} {S : Bool → Sd} {es : Bool → List Opn} (h : Two C H s l gl bl S es) (z : Sep s l gl bl S) (k : But s H H') (st : St H' s l) : Two C H' s l gl bl S es := by
  refine ⟨st, k _ _ h.hg z.gs, k _ _ h.hb z.bs, fun w => (h.sg w).keep fun a o e m => k _ _ e ?_, fun w => (h.bk w).keep (fun o e => k _ _ e ?_) (fun a xs e => k _ _ e (h.st.ne_tup e)), h.ln, h.ok⟩
  · have sg := h.sg w
    obtain ⟨_, _, _, _, e0, _⟩ := h.st
    rcases (by simpa using m : a = (S w).p ∨ a = (S w).n ∨ a = (S w).d1 ∨ a = (S w).d2 ∨ a = (S w).d3) with y | y | y | y | y <;> rw [y]
    · exact fun q => by have := sg.ob; rw [q, e0] at this; cases this
    · exact fun q => z.n4 w (by rw [q]; exact List.mem_cons_self ..)
    · exact fun q => by have := sg.a1; rw [q, e0] at this; cases this
    · exact fun q => by have := sg.a2; rw [q, e0] at this; cases this
    · exact fun q => by have := sg.a3; rw [q, e0] at this; cases this
  · exact fun q => z.b4 w (by rw [q]; exact List.mem_cons_self ..)
theorem Two.get {C : Addr} {H : Hp} {s l gl bl : Addr} {S : Bool → Sd} {es : Bool → List Opn} (h : Two C H s l gl bl S es) (w : Bool) : ([.ref (S false).p, .ref (S true).p] : List V)[if w then 1 else 0]? = some (.ref (S w).p) ∧ ([.ref (S false).b, .ref (S true).b] : List V)[if w then 1 else 0]? = some (.ref (S w).b) := by
  cases w <;> exact ⟨rfl, rfl⟩
/-- a declaration on one side -/
theorem Two.decl {C : Addr} {H H1 H2 H3 : Hp} {s l gl bl ta : Addr} {S : Bool → Sd} {es : Bool → List Opn} (h : Two C H s l gl bl S es) (z : Sep s l gl bl S) (w : Bool) (e : Opn) (hl : (es w).length < 12) (oke : OpnOk e)
    (sg1 : SigAt C H1 (S w).p (S w).dx (S w).n (S w).d1 (S w).d2 (S w).d3 (es w ++ [e])) (k1 : ∀ a o, H a = some o → a ≠ (S w).n → a ≠ (S w).d1 → a ≠ (S w).d2 → a ≠ (S w).d3 → H1 a = some o)
    (k2 : Same H1 H2) (ht : H2 ta = some (.tup [.str e.nm, .int (e.ar : Int), .bl e.cm])) (xs : List V) (hb0 : H (S w).b = some (.lst xs)) (k3 : But (S w).b H2 H3) (hb3 : H3 (S w).b = some (.lst (xs ++ [.ref ta]))) :
    Two C H3 s l gl bl S (fun v => if v = w then es w ++ [e] else es v) := by
  have sgw := h.sg w
  have lstk : ∀ {a : Addr} {ys : List V}, H a = some (.lst ys) → a ≠ (S w).n → H1 a = some (.lst ys) := fun {a ys} ha hn =>
    k1 _ _ ha hn (fun q => by have := sgw.a1; rw [← q, ha] at this; cases this) (fun q => by have := sgw.a2; rw [← q, ha] at this; cases this) (fun q => by have := sgw.a3; rw [← q, ha] at this; cases this)
  have tupk : ∀ {a : Addr} {ys : List V}, H a = some (.tup ys) → H3 a = some (.tup ys) := fun {a ys} ha => by
    refine k3 _ _ (k2 _ _ (k1 _ _ ha (fun q => ?_) (fun q => ?_) (fun q => ?_) (fun q => ?_))) (fun q => ?_)
    · have := sgw.nl; rw [← q, ha] at this; cases this
    · have := sgw.a1; rw [← q, ha] at this; cases this
    · have := sgw.a2; rw [← q, ha] at this; cases this
    · have := sgw.a3; rw [← q, ha] at this; cases this
    · rw [← q, ha] at hb0; cases hb0
  have n4 := z.n4 w
  have b4 := z.b4 w
  have mem1 : s ∈ [s, l, gl, bl] := by simp
  have mem2 : l ∈ [s, l, gl, bl] := by simp
  have mem3 : gl ∈ [s, l, gl, bl] := by simp
  have mem4 : bl ∈ [s, l, gl, bl] := by simp
  have lst3 : ∀ {a : Addr} {ys : List V}, H a = some (.lst ys) → a ≠ (S w).n → a ≠ (S w).b → H3 a = some (.lst ys) := fun ha h1 h2 => k3 _ _ (k2 _ _ (lstk ha h1)) h2
  have nen : ∀ {a : Addr}, a ∈ [s, l, gl, bl] → a ≠ (S w).n := fun m q => n4 (q ▸ m)
  have neb : ∀ {a : Addr}, a ∈ [s, l, gl, bl] → a ≠ (S w).b := fun m q => b4 (q ▸ m)
  refine ⟨?_, lst3 h.hg (nen mem3) (neb mem3), lst3 h.hb (nen mem4) (neb mem4), fun v => ?_, fun v => ?_, fun v => ?_, fun v => ?_⟩
  · obtain ⟨v, a, d, ns, e1, e2, r⟩ := h.st
    exact ⟨v, a, d, ns, lst3 e1 (nen mem1) (neb mem1), lst3 e2 (nen mem2) (neb mem2), r⟩
  · by_cases q : v = w
    · subst q
      rw [if_pos rfl]
      refine (sg1.same k2).keep fun a o ea m => k3 _ _ ea ?_
      have hb2 : H2 (S v).b = some (.lst xs) := k2 _ _ (lstk hb0 (z.nb v v).symm)
      have sg2 := sg1.same k2
      rcases (by simpa using m : a = (S v).p ∨ a = (S v).n ∨ a = (S v).d1 ∨ a = (S v).d2 ∨ a = (S v).d3) with y | y | y | y | y <;> rw [y]
      · exact fun q => by have := sg2.ob; rw [q, hb2] at this; cases this
      · exact z.nb v v
      · exact fun q => by have := sg2.a1; rw [q, hb2] at this; cases this
      · exact fun q => by have := sg2.a2; rw [q, hb2] at this; cases this
      · exact fun q => by have := sg2.a3; rw [q, hb2] at this; cases this
    · rw [if_neg q]
      have vw : v = !w := by cases v <;> cases w <;> simp_all
      have sgv := h.sg v
      have dd := z.dd w
      rw [← vw] at dd
      have nbk : ∀ {a : Addr} {o : HO}, H a = some o → (∀ ys, o ≠ .lst ys) → a ≠ (S w).b := fun ha ho q => by rw [q, hb0] at ha; exact ho _ (Option.some.inj ha).symm
      have nnk : ∀ {a : Addr} {o : HO}, H a = some o → (∀ ys, o ≠ .lst ys) → a ≠ (S w).n := fun ha ho q => by rw [q, sgw.nl] at ha; exact ho _ (Option.some.inj ha).symm
      have dk : ∀ {a : Addr} {kv : List (Key × V)}, H a = some (.dK kv) → a ∈ [(S v).d1, (S v).d2, (S v).d3] → H3 a = some (.dK kv) := fun {a kv} ha m =>
        k3 _ _ (k2 _ _ (k1 _ _ ha (nnk ha fun ys => by simp) (fun q => dd _ (by simp) (q ▸ m)) (fun q => dd _ (by simp) (q ▸ m)) (fun q => dd _ (by simp) (q ▸ m)))) (nbk ha fun ys => by simp)
      refine ⟨?_, lst3 sgv.nl ?_ (z.nb v w), dk sgv.a1 (by simp), dk sgv.a2 (by simp), dk sgv.a3 (by simp), sgv.n12, sgv.n13, sgv.n23, sgv.nd⟩
      · refine k3 _ _ (k2 _ _ (k1 _ _ sgv.ob (nnk sgv.ob fun ys => by simp) (fun q => ?_) (fun q => ?_) (fun q => ?_))) (nbk sgv.ob fun ys => by simp)
        · have := sgw.a1; rw [← q, sgv.ob] at this; cases this
        · have := sgw.a2; rw [← q, sgv.ob] at this; cases this
        · have := sgw.a3; rw [← q, sgv.ob] at this; cases this
      · have := z.nn w; rw [← vw] at this; exact this.symm
  · by_cases q : v = w
    · subst q
      rw [if_pos rfl]
      obtain ⟨as, h1, h2, h3⟩ := h.bk v
      rw [hb0] at h1
      have h1 := Option.some.inj h1
      injection h1 with h1
      subst h1
      refine ⟨as ++ [ta], by rw [hb3, List.map_append]; rfl, by rw [List.length_append, List.length_append, h2]; rfl, fun k e' a x y => ?_⟩
      by_cases lt : k < (es v).length
      · rw [List.getElem?_append_left lt] at x
        rw [List.getElem?_append_left (by omega)] at y
        exact tupk (h3 k e' a x y)
      · rw [List.getElem?_append_right (by omega)] at x
        rw [List.getElem?_append_right (by omega)] at y
        cases hk : k - (es v).length with
        | zero =>
          rw [hk] at x
          rw [show k - as.length = 0 by omega] at y
          cases x; cases y
          exact k3 _ _ ht fun q => by rw [q, k2 _ _ (lstk hb0 (z.nb v v).symm)] at ht; cases ht
        | succ j => rw [hk] at x; cases x
    · rw [if_neg q]
      have vw : v = !w := by cases v <;> cases w <;> simp_all
      have bb := z.bb w
      rw [← vw] at bb
      obtain ⟨as, h1, h2, h3⟩ := h.bk v
      exact ⟨as, lst3 h1 (z.nb w v).symm bb.symm, h2, fun k e a x y => tupk (h3 k e a x y)⟩
  · by_cases q : v = w
    · rw [if_pos q, List.length_append]; show _ + 1 ≤ 12; omega
    · rw [if_neg q]; exact h.ln v
  · by_cases q : v = w
    · rw [if_pos q]
      intro e' he'
      rcases List.mem_append.mp he' with y | y
      · exact h.ok w e' y
      · rw [List.mem_singleton.mp y]; exact oke
    · rw [if_neg q]; exact h.ok v
theorem ref_lay (x : Str) (h : PySem.PyData.strOk x = true) : (PyData.tuple [.str "refused", .str x]).canLay0 = true ∧ SeqAt.shaped (.tuple [.str "refused", .str x]) = true := by
  have h0 : PySem.PyData.strOk ("refused" : Str) = true := by decide +kernel
  have h1 : (PyData.tuple [.str "refused", .str x]).canLay0 = true := by
    show (PySem.PyData.strOk ("refused" : Str) && (PySem.PyData.strOk x && true)) = true
    rw [h0, h]; rfl
  refine ⟨h1, ?_⟩
  unfold SeqAt.shaped
  rw [h1]; rfl
def sp_law (K : PySem.W.Frag) : Sp := fun vs H Q _ => ∃ (a : Addr) (ns : List Int), vs = [.ref a] ∧ SqL K H a (ns.map V.int) ∧ ns.length ≤ 63 ∧ ∀ H', Q (.bl true) H'
theorem ok_law (T : Tx K mg A) : FnOk P w K mg base CX0 40 A.a_law A.d_law ["script"] (sp_law K) := by
  have G_Signature___init := ok_Signature___init (P := P) (w := w) (base := base) T
  have G_Signature___len := ok_Signature___len (P := P) (w := w) (base := base) T
  have G_Signature_copy := ok_Signature_copy (P := P) (w := w) (base := base) T
  have G_u_law_agrees := ok_u_law_agrees (P := P) (w := w) (base := base) T
  have G_u_law_draw := ok_u_law_draw (P := P) (w := w) (base := base) T
  have G_u_law_due := ok_u_law_due (P := P) (w := w) (base := base) T
  have G_u_law_is_integer := ok_u_law_is_integer (P := P) (w := w) (base := base) T
  have G_u_law_name := ok_u_law_name (P := P) (w := w) (base := base) T
  have G_u_law_state := ok_u_law_state (P := P) (w := w) (base := base) T
  have G_u_law_told := ok_u_law_told (P := P) (w := w) (base := base) T
  refine T.F_law.ok sc_law (fun vs H Q E h => ?_) (fun cdv Ar outer s0 H vs Q E hr h => ?_)
  · obtain ⟨a, ns, rfl, _⟩ := h; rfl
  obtain ⟨a, ns, rfl, hS, h63, q0⟩ := h
  refine ⟨_, (pss_cons (ps_set (i := 1) sc_law.nd rfl (Or.inl rfl) (pe_call G_u_law_state (hr.mono (by omega)) rfl T.m_u_law_state T.F_u_law_state.kp T.b_u_law_state .nil pass0 (pa_cons (pv 0) pa_nil)))
    (pss_cons (ps_set (i := 2) sc_law.nd rfl (Or.inl rfl) (pe_lst (pa_cons (pe_make0 T.M_Signature G_Signature___init (hr.mono (by omega)) rfl T.g_Signature T.b_Signature___init .nil pass0) (pa_cons (pe_make0 T.M_Signature G_Signature___init (hr.mono (by omega)) rfl T.g_Signature T.b_Signature___init .nil pass0) pa_nil))))
    (pss_cons (ps_set (i := 3) sc_law.nd rfl (Or.inl rfl) (pe_lst (pa_cons (pe_lst pa_nil) (pa_cons (pe_lst pa_nil) pa_nil))))
    (pss_cons (ps_for PassesOwn.never rfl (pi_range1 rfl T.n_range (pa_cons (pe_op op_add pe_int (pe_call G_u_law_draw (hr.mono (by omega)) rfl T.m_u_law_draw T.F_u_law_draw.kp T.b_u_law_draw .nil pass0 (pa_cons (pv 1) (pa_cons pe_int pa_nil)))) pa_nil)) (pg_name (i := 4) sc_law.nd rfl (Or.inl rfl)) (pss_cons (ps_set (i := 5) sc_law.nd rfl (Or.inl rfl) (pe_op op_fdiv (pe_call G_u_law_draw (hr.mono (by omega)) rfl T.m_u_law_draw T.F_u_law_draw.kp T.b_u_law_draw .nil pass0 (pa_cons (pv 1) (pa_cons pe_int pa_nil))) pe_int))
    (pss_cons (ps_set (i := 6) sc_law.nd rfl (Or.inl rfl) (pe_ix (r := rIxL K) ix_list (pv 3) (pv 5) (fun _ _ => rfl)))
    (pss_cons (ps_set (i := 7) sc_law.nd rfl (Or.inl rfl) (pe_call G_u_law_name (hr.mono (by omega)) rfl T.m_u_law_name T.F_u_law_name.kp T.b_u_law_name .nil pass0 (pa_cons (pv 1) (pa_cons (pe_lc (own := [("entry", 8)]) (by rfl) sc_law.nd (pi_list (pv 6)) (blkOk_by (own := [("entry", 8)]) (N := ["script", "state", "signatures", "books", "k", "which", "accepted", "name", "entry", "arity", "flag", "due", "actual", "copied", "before"]) (sc := defScope s_law) (by decide +kernel)) (fun _ _ _ _ _ => (pg_name (i := 8) sc_law.nd rfl (Or.inl rfl))) (fun _ _ _ _ _ => pts_nil) (fun _ _ _ _ _ => (pe_ix (r := rIxT K) ix_tup (pv 8) pe_int (fun _ _ => rfl)))) pa_nil))))
    (pss_cons (ps_set (i := 9) sc_law.nd rfl (Or.inl rfl) (pe_call G_u_law_draw (hr.mono (by omega)) rfl T.m_u_law_draw T.F_u_law_draw.kp T.b_u_law_draw .nil pass0 (pa_cons (pv 1) (pa_cons pe_int pa_nil))))
    (pss_cons (ps_if (pt_cmpR op_eq (pe_call G_u_law_draw (hr.mono (by omega)) rfl T.m_u_law_draw T.F_u_law_draw.kp T.b_u_law_draw .nil pass0 (pa_cons (pv 1) (pa_cons pe_int pa_nil))) pe_int (nomark _)) (pss_one (ps_set (i := 9) sc_law.nd rfl (Or.inl rfl) (pe_op op_sub (pe_op op_mul pe_int (pe_call G_u_law_draw (hr.mono (by omega)) rfl T.m_u_law_draw T.F_u_law_draw.kp T.b_u_law_draw .nil pass0 (pa_cons (pv 1) (pa_cons pe_int pa_nil)))) pe_int))) pss_nil)
    (pss_cons (ps_set (i := 10) sc_law.nd rfl (Or.inl rfl) (pe_cmpR op_eq (pe_call G_u_law_draw (hr.mono (by omega)) rfl T.m_u_law_draw T.F_u_law_draw.kp T.b_u_law_draw .nil pass0 (pa_cons (pv 1) (pa_cons pe_int pa_nil))) pe_int (nomark _)))
    (pss_cons (ps_set (i := 11) sc_law.nd rfl (Or.inl rfl) (pe_call G_u_law_due (hr.mono (by omega)) rfl T.m_u_law_due T.F_u_law_due.kp T.b_u_law_due .nil pass0 (pa_cons (pv 6) (pa_cons (pv 7) (pa_cons (pv 9) (pa_cons (pv 10) pa_nil))))))
    (pss_cons (ps_set (i := 12) sc_law.nd rfl (Or.inl rfl) (pe_call G_u_law_told (hr.mono (by omega)) rfl T.m_u_law_told T.F_u_law_told.kp T.b_u_law_told .nil pass0 (pa_cons (pe_ix (r := rIxL K) ix_list (pv 2) (pv 5) (fun _ _ => rfl)) (pa_cons (pv 7) (pa_cons (pv 9) (pa_cons (pv 10) pa_nil))))))
    (pss_cons (ps_if (pt_val (pe_callB (r := rIsi K) call_isi (by rfl) T.n_isinstance boot_isinstance (pa_cons (pv 11) (pa_cons (pe_bltn (v := .ty "int") (by rfl) T.n_int boot_int rfl) pa_nil)))) (pss_cons (ps_if (pt_not (pt_val (pe_call G_u_law_is_integer (hr.mono (by omega)) rfl T.m_u_law_is_integer T.F_u_law_is_integer.kp T.b_u_law_is_integer .nil pass0 (pa_cons (pv 12) pa_nil)))) (pss_one (ps_ret pe_bl)) pss_nil)
    (pss_one (ps_expr (pe_bm PySem.F.plainAttrs_list PySem.F.slot_list_append PySem.F.type_list_append mt_append (pv 6) (pa_cons (pe_tup (pa_cons (pv 7) (pa_cons (pv 9) (pa_cons (pv 10) pa_nil)))) pa_nil))))) pss_nil)
    (pss_one (ps_if (PW.pt (pw_or (pt_cmpR (r := rNeD K) (op_neD hr.units) (pv 12) (pv 11) (nomark _)) (pw_or1 (pt_not (pt_val (pe_call G_u_law_agrees (hr.mono (by omega)) rfl T.m_u_law_agrees T.F_u_law_agrees.kp T.b_u_law_agrees .nil pass0 (pa_cons (pe_ix (r := rIxL K) ix_list (pv 2) (pv 5) (fun _ _ => rfl)) (pa_cons (pv 6) pa_nil)))))))) (pss_one (ps_ret pe_bl)) pss_nil))))))))))))
    (pss_cons (ps_set (i := 13) sc_law.nd rfl (Or.inl rfl) (pe_meth0 (pe_ix (r := rIxL K) ix_list (pv 2) pe_int (fun _ _ => rfl)) T.K_Signature T.H_Signature_copy G_Signature_copy (hr.mono (by omega)) T.b_Signature_copy .nil pass0))
    (pss_cons (ps_set (i := 14) sc_law.nd rfl (Or.inl rfl) (pe_callB (r := rLenS K) j_len (by rfl) T.n_len PySem.boot_len (pa_cons (pe_ix (r := rIxL K) ix_list (pv 3) pe_int (fun _ _ => rfl)) pa_nil)))
    (pss_cons (ps_expr (pe_call G_u_law_told (hr.mono (by omega)) rfl T.m_u_law_told T.F_u_law_told.kp T.b_u_law_told .nil pass0 (pa_cons (pe_ix (r := rIxL K) ix_list (pv 2) pe_int (fun _ _ => rfl)) (pa_cons pe_str (pa_cons pe_int (pa_cons pe_bl pa_nil))))))
    (pss_one (ps_ret (pe_and (pe_cmpR op_eq (pe_callB (call_lenO T.O_Signature___len G_Signature___len (hr.mono (by omega)) T.b_Signature___len pass0) (by rfl) T.n_len PySem.boot_len (pa_cons (pv 13) pa_nil)) (pv 14) (nomark _)) (pe_and (pe_call G_u_law_agrees (hr.mono (by omega)) rfl T.m_u_law_agrees T.F_u_law_agrees.kp T.b_u_law_agrees .nil pass0 (pa_cons (pv 13) (pa_cons (pe_ix (r := rIxL K) ix_list (pv 3) pe_int (fun _ _ => rfl)) pa_nil))) (pe_one (pe_call G_u_law_agrees (hr.mono (by omega)) rfl T.m_u_law_agrees T.F_u_law_agrees.kp T.b_u_law_agrees .nil pass0 (pa_cons (pe_ix (r := rIxL K) ix_list (pv 2) pe_int (fun _ _ => rfl)) (pa_cons (pe_ix (r := rIxL K) ix_list (pv 3) pe_int (fun _ _ => rfl)) pa_nil))))))))))))))), ?_⟩
  walk_at "rd"
  refine ⟨a, ns, rfl, hS, h63, fun s l H1 s1 n1 n1l st1 => ?_⟩
  walk_at "rd"
  walk_at "rd"
  refine fun p dx npA ndxA neA => ?_
  have s0A : Same H1 (upd (upd H1 dx (.own p)) p (.ins A.c_Signature dx [])) := fun b o e => by
    rw [upd_ne (ne_of_none e npA), upd_ne (ne_of_none e ndxA)]
    exact e
  have h0A : upd (upd H1 dx (.own p)) p (.ins A.c_Signature dx []) p = some (.ins A.c_Signature dx []) := upd_same
  generalize upd (upd H1 dx (.own p)) p (.ins A.c_Signature dx []) = H1a at s0A h0A
  refine ⟨p, dx, rfl, h0A, fun n d1 d2 d3 H2 f0A f1A f2A f3A np'A m1A m2A m3A sgA b1A => ⟨rfl, ?_⟩⟩
  have frA : ∀ {a : Addr}, H1a a = none → H1 a = none := fun {a} e => by
    cases z : H1 a with
    | none => rfl
    | some ob => rw [s0A _ _ z] at e; cases e
  have kA : Same H1 H2 := fun c ob e => b1A _ _ (s0A _ _ e) (ne_of_none e npA)
  walk_at "rd"
  refine fun p2 dx2 npB ndxB neB => ?_
  have s0B : Same H2 (upd (upd H2 dx2 (.own p2)) p2 (.ins A.c_Signature dx2 [])) := fun b o e => by
    rw [upd_ne (ne_of_none e npB), upd_ne (ne_of_none e ndxB)]
    exact e
  have h0B : upd (upd H2 dx2 (.own p2)) p2 (.ins A.c_Signature dx2 []) p2 = some (.ins A.c_Signature dx2 []) := upd_same
  generalize upd (upd H2 dx2 (.own p2)) p2 (.ins A.c_Signature dx2 []) = H2a at s0B h0B
  refine ⟨p2, dx2, rfl, h0B, fun n2 e1 e2 e3 H3 f0B f1B f2B f3B np'B m1B m2B m3B sgB b1B => ⟨rfl, ?_⟩⟩
  have frB : ∀ {a : Addr}, H2a a = none → H2 a = none := fun {a} e => by
    cases z : H2 a with
    | none => rfl
    | some ob => rw [s0B _ _ z] at e; cases e
  have kB : Same H2 H3 := fun c ob e => b1B _ _ (s0B _ _ e) (ne_of_none e npB)
  walk_at "rd"
  refine ⟨show 2 ≤ sizeLine by decide, ?_⟩
  first | intro gl ngl | refine fun gl ngl => ?_
  generalize ehn : upd H3 gl _ = H4
  have s4 := J.al_same ngl ehn
  have hgl := J.al_at ehn
  clear ehn
  walk_at "rd"
  refine ⟨show 0 ≤ sizeLine by decide, ?_⟩
  first | intro b0 nb0 | refine fun b0 nb0 => ?_
  generalize ehn : upd H4 b0 _ = H5
  have s5 := J.al_same nb0 ehn
  have hb0 := J.al_at ehn
  clear ehn
  walk_at "rd"
  refine ⟨show 0 ≤ sizeLine by decide, ?_⟩
  first | intro b1 nb1 | refine fun b1 nb1 => ?_
  generalize ehn : upd H5 b1 _ = H6
  have s6 := J.al_same nb1 ehn
  have hb1 := J.al_at ehn
  clear ehn
  walk_at "rd"
  refine ⟨show 2 ≤ sizeLine by decide, ?_⟩
  first | intro bl nbl | refine fun bl nbl => ?_
  generalize ehn : upd H6 bl _ = H7
  have s7 := J.al_same nbl ehn
  have hbl := J.al_at ehn
  clear ehn
  obtain ⟨sv, sa, sd, sns, hs0, hl0, _⟩ := id st1
  have x3 : ∀ {c o}, H1 c = some o → H3 c = some o := fun e => kB _ _ (kA _ _ e)
  have x6 : ∀ {c o}, H3 c = some o → H6 c = some o := fun e => s6 _ _ (s5 _ _ (s4 _ _ e))
  have hn := sgA.nl
  have hn2 := sgB.nl
  have nl0 := frA f0A
  have nl2 := frB f0B
  obtain ⟨S, hSd⟩ : ∃ S : Bool → Sd, S = fun w => cond w ⟨p2, dx2, n2, e1, e2, e3, b1⟩ ⟨p, dx, n, d1, d2, d3, b0⟩ := ⟨_, rfl⟩
  have sep : Sep s l gl bl S := by
    rw [hSd]
    refine ⟨(ne_of_none (x3 hs0) ngl).symm, (ne_of_none (x6 (x3 hs0)) nbl).symm, fun w => ?_, fun w => ?_, fun w => ?_, fun w => ?_, fun w v => ?_, fun w => ?_⟩
    · cases w
      · show n ∉ [s, l, gl, bl]
        simp only [List.mem_cons, List.not_mem_nil, or_false, not_or]
        exact ⟨(ne_of_none hs0 nl0).symm, (ne_of_none hl0 nl0).symm, ne_of_none (kB _ _ hn) ngl, ne_of_none (x6 (kB _ _ hn)) nbl⟩
      · show n2 ∉ [s, l, gl, bl]
        simp only [List.mem_cons, List.not_mem_nil, or_false, not_or]
        exact ⟨(ne_of_none (kA _ _ hs0) nl2).symm, (ne_of_none (kA _ _ hl0) nl2).symm, ne_of_none hn2 ngl, ne_of_none (x6 hn2) nbl⟩
    · cases w
      · show b0 ∉ [s, l, gl, bl]
        simp only [List.mem_cons, List.not_mem_nil, or_false, not_or]
        exact ⟨(ne_of_none (s4 _ _ (x3 hs0)) nb0).symm, (ne_of_none (s4 _ _ (x3 hl0)) nb0).symm, (ne_of_none hgl nb0).symm, ne_of_none (s6 _ _ hb0) nbl⟩
      · show b1 ∉ [s, l, gl, bl]
        simp only [List.mem_cons, List.not_mem_nil, or_false, not_or]
        exact ⟨(ne_of_none (s5 _ _ (s4 _ _ (x3 hs0))) nb1).symm, (ne_of_none (s5 _ _ (s4 _ _ (x3 hl0))) nb1).symm, (ne_of_none (s5 _ _ hgl) nb1).symm, ne_of_none hb1 nbl⟩
    · have := ne_of_none hn nl2
      cases w
      · exact this
      · exact this.symm
    · have := ne_of_none hb0 nb1
      cases w
      · exact this
      · exact this.symm
    · have z1 := ne_of_none (s4 _ _ (kB _ _ hn)) nb0
      have z2 := ne_of_none (s5 _ _ (s4 _ _ (kB _ _ hn))) nb1
      have z3 := ne_of_none (s4 _ _ hn2) nb0
      have z4 := ne_of_none (s5 _ _ (s4 _ _ hn2)) nb1
      cases w <;> cases v
      · exact z1
      · exact z2
      · exact z3
      · exact z4
    · have q : ∀ a ∈ [d1, d2, d3], ∀ c ∈ [e1, e2, e3], a ≠ c := fun a ma c mc => by
        have hc : H2 c = none := by
          rcases (by simpa using mc : c = e1 ∨ c = e2 ∨ c = e3) with y | y | y <;> rw [y]
          · exact frB f1B
          · exact frB f2B
          · exact frB f3B
        rcases (by simpa using ma : a = d1 ∨ a = d2 ∨ a = d3) with y | y | y <;> rw [y]
        · exact ne_of_none sgA.a1 hc
        · exact ne_of_none sgA.a2 hc
        · exact ne_of_none sgA.a3 hc
      cases w
      · exact fun a ma mc => q a ma a mc rfl
      · exact fun a ma mc => q a mc a ma rfl
  have tw7 : Two A.c_Signature H7 s l gl bl S (fun _ => []) := by
    rw [hSd]
    refine ⟨((((((st1.same kA).same kB).same s4).same s5).same s6).same s7), s7 _ _ (s6 _ _ (s5 _ _ hgl)), hbl, fun w => ?_, fun w => ?_, fun w => Nat.zero_le _, fun w e he => nomatch he⟩
    · cases w
      · exact ((((sgA.same kB).same s4).same s5).same s6).same s7
      · exact (((sgB.same s4).same s5).same s6).same s7
    · cases w
      · exact ⟨[], s7 _ _ (s6 _ _ hb0), rfl, fun k e a x => by cases x⟩
      · exact ⟨[], s7 _ _ hb1, rfl, fun k e a x => by cases x⟩
  clear hSd
  dsimp only [gName]
  refine at_state (t := tSeq (tFor _ _ _) _) (σ' := [some (.ref a), some (.ref s), some (.ref gl), some (.ref bl), none, none, none, none, none, none, none, none, none, none, none]) rfl ?_
  clear sgA sgB b1A b1B h0A h0B s0A s0B
  walk_at "rd"
  refine ⟨s, l, 21, rfl, tw7.st, by decide, by decide, fun N0 H8 N00 N01 b8 st8 => ?_⟩
  have tw8 := tw7.draw sep b8 st8
  walk_at "rd"
  refine ⟨by omega, by omega, for_range (lo := 0) (n := (10 + N0).toNat) (fun i σ' H' => ∃ x4 x5 x6 x7 x8 x9 x10 x11 x12, σ' = [some (.ref a), some (.ref s), some (.ref gl), some (.ref bl), x4, x5, x6, x7, x8, x9, x10, x11, x12, none, none] ∧ ∃ es : Bool → List Opn, Two A.c_Signature H' s l gl bl S es) ?_ ?_ ?_⟩
  · exact ⟨_, _, _, _, _, _, _, _, _, rfl, _, tw8⟩
  · rintro i σ' H9 hi ⟨x4, x5, x6, x7, x8, x9, x10, x11, x12, rfl, es, tw⟩
    walk_at "rd"
    refine ⟨s, l, 4, rfl, tw.st, by decide, by decide, fun r H10 r0 r1 b10 st10 => ?_⟩
    have tw10 := tw.draw sep b10 st10
    clear tw
    walk_at "rd"
    obtain ⟨wd, hw⟩ : ∃ wd : Bool, r / 3 = ((if wd then 1 else 0 : Nat) : Int) := by
      by_cases z : r = 3
      · exact ⟨true, by rw [z]; rfl⟩
      · exact ⟨false, by show r / 3 = 0; omega⟩
    refine ⟨bl, _, _, _, rfl, rfl, SqL.of tw10.hb, (congrArg (atI _) hw).trans (atI_nat (tw10.get wd).2), ?_⟩
    obtain ⟨as, hb, hlb, hat⟩ := tw10.bk wd
    have ln := tw10.ln wd
    walk_at "rd"
    refine ⟨⟨_, SqL.of hb⟩, fun D hD => ?_⟩
    refine lc_list (K := K) (a := (S wd).b) (xs := as.map V.ref) (fun i H' => H' D = some (.lst ((((es wd).take i).map (·.nm)).map V.str)) ∧ Same H10 H') ?_ ?_ ?_ ?_
    · exact ⟨upd_same, same_new hD _⟩
    · rintro i H' hi ⟨hd', bb⟩
      exact SqL.of (bb _ _ hb)
    · rintro i y H' gi ⟨hd', bb⟩
      have hia : i < as.length := by
        have := (List.getElem?_eq_some_iff.mp gi).1
        simpa using this
      have hie : i < (es wd).length := by omega
      rw [List.getElem?_map, List.getElem?_eq_getElem hia] at gi
      have gi := (Option.some.inj gi).symm
      subst gi
      have ge := List.getElem?_eq_getElem hie
      have ht := bb _ _ (hat i _ _ ge (List.getElem?_eq_getElem hia))
      refine ⟨rfl, ?_⟩
      walk_at "rd"
      refine ⟨_, hd', by rw [List.length_map, List.length_map, List.length_take, sizeLine_eq]; omega, ?_, same_mut bb hD _⟩
      rw [upd_same, list_take_succ ge, List.map_append, List.map_append]; rfl
    rintro H11 ⟨hd11, s11⟩
    rw [List.length_map, hlb, List.take_length] at hd11
    have tw11 := tw10.same s11
    refine ⟨s, l, D, (es wd).map (·.nm), rfl, tw11.st, hd11, by rw [List.length_map]; exact ln, fun x hx => ?_, fun nm H12 b12 st12 hnm => ?_⟩
    · obtain ⟨e, he, rfl⟩ := List.mem_map.mp hx
      have := (tw11.ok wd e he).hi
      omega
    have tw12 := tw11.draw sep b12 st12
    walk_at "rd"
    refine ⟨s, l, 4, rfl, st12, by decide, by decide, fun a4 H13 a40 a41 b13 st13 => ?_⟩
    have tw13 := tw12.draw sep b13 st13
    dsimp only [gName]
    refine at_state (t := tSeq (tIfS _ _ _) _) (σ' := [some (.ref a), some (.ref s), some (.ref gl), some (.ref bl), some (.int (0 + (i : Int))), some (.int (r / 3)), some (.ref (S wd).b), some (.str nm), _, some (.int a4), x10, x11, x12, none, none]) rfl ?_
    refine seq_join (t := tIfS _ _ _) (fun σ' H' => ∃ (y8 : Option V) (ar : Int), σ' = [some (.ref a), some (.ref s), some (.ref gl), some (.ref bl), some (.int (0 + (i : Int))), some (.int (r / 3)), some (.ref (S wd).b), some (.str nm), y8, some (.int ar), x10, x11, x12, none, none] ∧ Two A.c_Signature H' s l gl bl S es) ?_ (fun N cont => ?_)
    rotate_left
    · walk_at "rd"
      refine ⟨s, l, 6, rfl, tw13.st, by decide, by decide, fun r6 H14 r60 r61 b14 st14 => ?_⟩
      have tw14 := tw13.draw sep b14 st14
      walk_at "rd"
      refine ifEq (fun e => ?_) (fun e => ?_)
      · walk_at "rd"
        refine ⟨s, l, 2, rfl, st14, by decide, by decide, fun r2 H15 r20 r21 b15 st15 => ?_⟩
        walk_at "rd"
        exact cont _ _ ⟨_, _, rfl, tw14.draw sep b15 st15⟩
      · exact cont _ _ ⟨_, _, rfl, tw14⟩
    rintro σ' H14 ⟨y8, ar, rfl, tw14⟩
    walk_at "rd"
    refine ⟨s, l, 4, rfl, tw14.st, by decide, by decide, fun fl H15 fl0 fl1 b15 st15 => ?_⟩
    have tw15 := tw14.draw sep b15 st15
    walk_at "rd"
    generalize decide (V.int fl = V.int 0) = cm
    refine ⟨(S wd).b, es wd, nm, ar, cm, rfl, tw15.bk wd, ln, by omega, fun z1 v H16 s16 rv => ?_, fun z1 z2 v H16 s16 rv => ?_, fun z1 z2 z3 v H16 s16 rv => ?_, fun z1 z2 z3 z4 v H16 s16 rv => ?_, fun z1 z2 z3 z4 H16 s16 => ?_⟩
    · obtain ⟨ra, rfl, hra⟩ := rv
      have tw16 := tw15.same s16
      walk_at "rd"
      refine ⟨gl, _, _, _, rfl, rfl, SqL.of tw16.hg, (congrArg (atI _) hw).trans (atI_nat (tw16.get wd).1), ?_⟩
      walk_at "rd"
      refine ⟨_, _, _, _, _, _, es wd, nm, ar, cm, rfl, tw16.sg wd, ln, by omega, fun _ v2 H17 s17 rv2 => ?_, fun y => absurd y z1, fun y => absurd y z1, fun y => absurd y z1, fun y => absurd y z1⟩
      obtain ⟨rb, rfl, hrb⟩ := rv2
      have hra17 := s17 _ _ hra
      have tw17 := tw16.same s17
      walk_at "ri"
      have lay := ref_lay ("name" : Str) (by decide +kernel)
      refine ⟨_, _, .tup (SqT.of hrb) (.cons (.str _) (.cons (.str _) .nil)), .tup (SqT.of hra17) (.cons (.str _) (.cons (.str _) .nil)), lay.2, lay.2, ?_⟩
      rw [SeqAt.eqv_refl _ lay.1]
      refine ⟨false, rfl, ?_⟩
      dsimp only
      walk_at "rd"
      refine ⟨gl, _, _, _, rfl, rfl, SqL.of tw17.hg, (congrArg (atI _) hw).trans (atI_nat (tw17.get wd).1), ?_⟩
      walk_at "rd"
      refine ⟨_, _, _, _, _, _, _, es wd, rfl, tw17.sg wd, tw17.bk wd, ln, tw17.ok wd, fun H18 s18 => ?_⟩
      walk_at "rd"
      exact ⟨_, _, _, _, _, _, _, _, _, rfl, es, tw17.same s18⟩
    · obtain ⟨ra, rfl, hra⟩ := rv
      have tw16 := tw15.same s16
      walk_at "rd"
      refine ⟨gl, _, _, _, rfl, rfl, SqL.of tw16.hg, (congrArg (atI _) hw).trans (atI_nat (tw16.get wd).1), ?_⟩
      walk_at "rd"
      refine ⟨_, _, _, _, _, _, es wd, nm, ar, cm, rfl, tw16.sg wd, ln, by omega, fun y => absurd z1 y, fun _ _ v2 H17 s17 rv2 => ?_, fun _ y => absurd y z2, fun _ y => absurd y z2, fun _ y => absurd y z2⟩
      obtain ⟨rb, rfl, hrb⟩ := rv2
      have hra17 := s17 _ _ hra
      have tw17 := tw16.same s17
      walk_at "ri"
      have lay := ref_lay ("arity" : Str) (by decide +kernel)
      refine ⟨_, _, .tup (SqT.of hrb) (.cons (.str _) (.cons (.str _) .nil)), .tup (SqT.of hra17) (.cons (.str _) (.cons (.str _) .nil)), lay.2, lay.2, ?_⟩
      rw [SeqAt.eqv_refl _ lay.1]
      refine ⟨false, rfl, ?_⟩
      dsimp only
      walk_at "rd"
      refine ⟨gl, _, _, _, rfl, rfl, SqL.of tw17.hg, (congrArg (atI _) hw).trans (atI_nat (tw17.get wd).1), ?_⟩
      walk_at "rd"
      refine ⟨_, _, _, _, _, _, _, es wd, rfl, tw17.sg wd, tw17.bk wd, ln, tw17.ok wd, fun H18 s18 => ?_⟩
      walk_at "rd"
      exact ⟨_, _, _, _, _, _, _, _, _, rfl, es, tw17.same s18⟩
    · obtain ⟨ra, rfl, hra⟩ := rv
      have tw16 := tw15.same s16
      walk_at "rd"
      refine ⟨gl, _, _, _, rfl, rfl, SqL.of tw16.hg, (congrArg (atI _) hw).trans (atI_nat (tw16.get wd).1), ?_⟩
      walk_at "rd"
      refine ⟨_, _, _, _, _, _, es wd, nm, ar, cm, rfl, tw16.sg wd, ln, by omega, fun y => absurd z1 y, fun _ y => absurd z2 y, fun _ _ _ v2 H17 s17 rv2 => ?_, fun _ _ y => absurd z3 y, fun _ _ y => absurd z3 y⟩
      obtain ⟨rb, rfl, hrb⟩ := rv2
      have hra17 := s17 _ _ hra
      have tw17 := tw16.same s17
      walk_at "ri"
      have lay := ref_lay ("duplicate" : Str) (by decide +kernel)
      refine ⟨_, _, .tup (SqT.of hrb) (.cons (.str _) (.cons (.str _) .nil)), .tup (SqT.of hra17) (.cons (.str _) (.cons (.str _) .nil)), lay.2, lay.2, ?_⟩
      rw [SeqAt.eqv_refl _ lay.1]
      refine ⟨false, rfl, ?_⟩
      dsimp only
      walk_at "rd"
      refine ⟨gl, _, _, _, rfl, rfl, SqL.of tw17.hg, (congrArg (atI _) hw).trans (atI_nat (tw17.get wd).1), ?_⟩
      walk_at "rd"
      refine ⟨_, _, _, _, _, _, _, es wd, rfl, tw17.sg wd, tw17.bk wd, ln, tw17.ok wd, fun H18 s18 => ?_⟩
      walk_at "rd"
      exact ⟨_, _, _, _, _, _, _, _, _, rfl, es, tw17.same s18⟩
    · obtain ⟨ra, rfl, hra⟩ := rv
      have tw16 := tw15.same s16
      walk_at "rd"
      refine ⟨gl, _, _, _, rfl, rfl, SqL.of tw16.hg, (congrArg (atI _) hw).trans (atI_nat (tw16.get wd).1), ?_⟩
      walk_at "rd"
      refine ⟨_, _, _, _, _, _, es wd, nm, ar, cm, rfl, tw16.sg wd, ln, by omega, fun y => absurd z1 y, fun _ y => absurd z2 y, fun _ _ y => absurd y z3, fun _ _ _ _ v2 H17 s17 rv2 => ?_, fun _ _ _ y => absurd y (by omega)⟩
      obtain ⟨rb, rfl, hrb⟩ := rv2
      have hra17 := s17 _ _ hra
      have tw17 := tw16.same s17
      walk_at "ri"
      have lay := ref_lay ("large" : Str) (by decide +kernel)
      refine ⟨_, _, .tup (SqT.of hrb) (.cons (.str _) (.cons (.str _) .nil)), .tup (SqT.of hra17) (.cons (.str _) (.cons (.str _) .nil)), lay.2, lay.2, ?_⟩
      rw [SeqAt.eqv_refl _ lay.1]
      refine ⟨false, rfl, ?_⟩
      dsimp only
      walk_at "rd"
      refine ⟨gl, _, _, _, rfl, rfl, SqL.of tw17.hg, (congrArg (atI _) hw).trans (atI_nat (tw17.get wd).1), ?_⟩
      walk_at "rd"
      refine ⟨_, _, _, _, _, _, _, es wd, rfl, tw17.sg wd, tw17.bk wd, ln, tw17.ok wd, fun H18 s18 => ?_⟩
      walk_at "rd"
      exact ⟨_, _, _, _, _, _, _, _, _, rfl, es, tw17.same s18⟩
    · have tw16 := tw15.same s16
      walk_at "rd"
      refine ⟨gl, _, _, _, rfl, rfl, SqL.of tw16.hg, (congrArg (atI _) hw).trans (atI_nat (tw16.get wd).1), ?_⟩
      walk_at "rd"
      refine ⟨_, _, _, _, _, _, es wd, nm, ar, cm, rfl, tw16.sg wd, ln, by omega, fun y => absurd z1 y, fun _ y => absurd z2 y, fun _ _ y => absurd y z3, fun _ _ _ y => absurd y (by omega), fun _ _ _ _ H17 sg17 k17 => ?_⟩
      obtain ⟨a5, rfl⟩ := Int.eq_ofNat_of_zero_le z2.1
      obtain ⟨as2, hb16, hlb2, hat2⟩ := id (tw16.bk wd)
      have sgw := tw16.sg wd
      have hb17 : H17 (S wd).b = some (.lst (as2.map V.ref)) := k17 _ _ hb16 (sep.nb wd wd).symm (fun q => by have := sgw.a1; rw [← q, hb16] at this; cases this) (fun q => by have := sgw.a2; rw [← q, hb16] at this; cases this) (fun q => by have := sgw.a3; rw [← q, hb16] at this; cases this)
      walk_at "ri"
      refine ⟨.inl ⟨rfl, _, SqL.of hb17⟩, ?_⟩
      walk_at "rd"
      refine ⟨show 3 ≤ sizeLine by decide, ?_⟩
      first | intro ta nta | refine fun ta nta => ?_
      generalize ehn : upd H17 ta _ = H18
      have s18 := J.al_same nta ehn
      have hta := J.al_at ehn
      clear ehn
      have hb18 := s18 _ _ hb17
      refine ⟨(S wd).b, _, _, rfl, rfl, hb18, by rw [List.length_map, sizeLine_eq]; omega, ?_⟩
      generalize ehn : upd H18 (S wd).b _ = H19
      have b19 : But (S wd).b H18 H19 := by rw [← ehn]; exact but_upd _
      have h19 : H19 (S wd).b = some (.lst (as2.map V.ref ++ [.ref ta])) := by rw [← ehn]; exact upd_same
      clear ehn
      have tw19 := tw16.decl sep wd ⟨nm, a5, cm⟩ z4 ⟨z1.2.2, z1.1, z1.2.1, by have := z2.2.1; show a5 ≤ 3; omega, fun z => by have := z2.2.2 z; show a5 = 2; omega⟩ sg17 k17 s18 hta _ hb16 b19 h19
      walk_at "rd"
      refine ⟨_, _, .int _, .int _, rfl, rfl, ?_⟩
      rw [SeqAt.eqv_refl _ rfl]
      refine ⟨false, rfl, ?_⟩
      dsimp only
      walk_at "rd"
      refine ⟨gl, _, _, _, rfl, rfl, SqL.of tw19.hg, (congrArg (atI _) hw).trans (atI_nat (tw19.get wd).1), ?_⟩
      walk_at "rd"
      refine ⟨_, _, _, _, _, _, _, _, rfl, tw19.sg wd, tw19.bk wd, tw19.ln wd, tw19.ok wd, fun H20 s20 => ?_⟩
      walk_at "rd"
      exact ⟨_, _, _, _, _, _, _, _, _, rfl, _, tw19.same s20⟩
  · rintro σ' H9 ⟨x4, x5, x6, x7, x8, x9, x10, x11, x12, rfl, es, tw⟩
    walk_at "rd"
    refine ⟨gl, _, _, _, rfl, rfl, SqL.of tw.hg, atI_nat (j := 0) rfl, ?_⟩
    have sg := tw.sg false
    have sgT := tw.sg true
    have nmk : ∀ (n d1 d2 d3 : Addr) (m : Str), (m == ("_names" : Str)) = false → (m == ("_arities" : Str)) = false → (m == ("_ranks" : Str)) = false → (m == ("_flags" : Str)) = false → ([(("_names" : Str), V.ref n), (("_arities" : Str), V.ref d1), (("_ranks" : Str), V.ref d2), (("_flags" : Str), V.ref d3)] : List (Str × V)).lookup m = none := fun n d1 d2 d3 m => sg_no _ _ _ _
    refine ⟨_, _, _, rfl, sg.ob, nmk _ _ _ _ _ (by decide +kernel) (by decide +kernel) (by decide +kernel) (by decide +kernel), ?_⟩
    refine ⟨_, _, _, _, _, _, _, rfl, sg, tw.ln false, tw.ok false, fun p' dx' n' c1 c2 c3 H10 s10 np' nn' nc1 nc2 nc3 sgc => ?_⟩
    have tw10 := tw.same s10
    walk_at "rd"
    refine ⟨bl, _, _, _, rfl, rfl, SqL.of tw10.hb, atI_nat (j := 0) rfl, ?_⟩
    obtain ⟨as0, hb0', hlb0, hat0⟩ := tw10.bk false
    walk_at "rd"
    refine ⟨gl, _, _, _, rfl, rfl, SqL.of tw10.hg, atI_nat (j := 0) rfl, ?_⟩
    have l8 : ("abcdefgh" : Str).length = 8 := by decide +kernel
    have nok : NmOk ("abcdefgh" : Str) := ⟨by rw [l8]; omega, by rw [l8]; omega, fun c hc => abc_in c (by
      have : ∀ c ∈ cods ("abcdefgh" : Str), c ∈ cods ("abcdefghijklmnopqrstuvwxyz" : Str) := by decide +kernel
      exact this c hc)⟩
    have aok : ArOk 0 false := ⟨by omega, by omega, fun z => nomatch z⟩
    have kf : ∀ H11, (∀ a o, H10 a = some o → a ≠ (S false).n → a ≠ (S false).d1 → a ≠ (S false).d2 → a ≠ (S false).d3 → H11 a = some o) →
        SigAt A.c_Signature H11 p' dx' n' c1 c2 c3 (es false) ∧ BkAt H11 (S false).b (es false) ∧ SigAt A.c_Signature H11 (S true).p (S true).dx (S true).n (S true).d1 (S true).d2 (S true).d3 (es true) ∧ BkAt H11 (S true).b (es true) ∧
        H11 gl = some (.lst [.ref (S false).p, .ref (S true).p]) ∧ H11 bl = some (.lst [.ref (S false).b, .ref (S true).b]) := fun H11 k => by
      have sg := tw10.sg false
      have sgt := tw10.sg true
      have lk : ∀ {a : Addr} {ys : List V}, H10 a = some (.lst ys) → a ≠ (S false).n → H11 a = some (.lst ys) := fun {a ys} ha hn =>
        k _ _ ha hn (fun q => by have := sg.a1; rw [← q, ha] at this; cases this) (fun q => by have := sg.a2; rw [← q, ha] at this; cases this) (fun q => by have := sg.a3; rw [← q, ha] at this; cases this)
      have tk : ∀ {a : Addr} {ys : List V}, H10 a = some (.tup ys) → H11 a = some (.tup ys) := fun {a ys} ha =>
        k _ _ ha (fun q => by have := sg.nl; rw [← q, ha] at this; cases this) (fun q => by have := sg.a1; rw [← q, ha] at this; cases this) (fun q => by have := sg.a2; rw [← q, ha] at this; cases this) (fun q => by have := sg.a3; rw [← q, ha] at this; cases this)
      have ik : ∀ {a C d : Addr} {fs : List (Str × V)}, H10 a = some (.ins C d fs) → H11 a = some (.ins C d fs) := fun {a C d fs} ha =>
        k _ _ ha (fun q => by have := sg.nl; rw [← q, ha] at this; cases this) (fun q => by have := sg.a1; rw [← q, ha] at this; cases this) (fun q => by have := sg.a2; rw [← q, ha] at this; cases this) (fun q => by have := sg.a3; rw [← q, ha] at this; cases this)
      have dk : ∀ {a : Addr} {kv : List (Key × V)}, H10 a = some (.dK kv) → a ≠ (S false).d1 → a ≠ (S false).d2 → a ≠ (S false).d3 → H11 a = some (.dK kv) := fun {a kv} ha =>
        k _ _ ha (fun q => by have := sg.nl; rw [← q, ha] at this; cases this)
      have n4 := sep.n4 false
      have q1 : ∀ {c : Addr}, H9 c = none → ∀ x ∈ [(S false).n, (S false).d1, (S false).d2, (S false).d3], c ≠ x := fun {c} hc x mx => by
        have s9 := tw.sg false
        rcases (by simpa using mx : x = (S false).n ∨ x = (S false).d1 ∨ x = (S false).d2 ∨ x = (S false).d3) with y | y | y | y <;> rw [y]
        · exact (ne_of_none s9.nl hc).symm
        · exact (ne_of_none s9.a1 hc).symm
        · exact (ne_of_none s9.a2 hc).symm
        · exact (ne_of_none s9.a3 hc).symm
      have dd : ∀ a ∈ [(S true).d1, (S true).d2, (S true).d3], a ≠ (S false).d1 ∧ a ≠ (S false).d2 ∧ a ≠ (S false).d3 := fun a m => by
        have : a ∉ [(S false).d1, (S false).d2, (S false).d3] := sep.dd true a m
        simp only [List.mem_cons, List.not_mem_nil, or_false, not_or] at this
        exact this
      have m1 := dd (S true).d1 (by simp)
      have m2 := dd (S true).d2 (by simp)
      have m3 := dd (S true).d3 (by simp)
      refine ⟨⟨ik sgc.ob, lk sgc.nl (q1 nn' _ (by simp)), dk sgc.a1 (q1 nc1 _ (by simp)) (q1 nc1 _ (by simp)) (q1 nc1 _ (by simp)), dk sgc.a2 (q1 nc2 _ (by simp)) (q1 nc2 _ (by simp)) (q1 nc2 _ (by simp)), dk sgc.a3 (q1 nc3 _ (by simp)) (q1 nc3 _ (by simp)) (q1 nc3 _ (by simp)), sgc.n12, sgc.n13, sgc.n23, sgc.nd⟩,
        (tw10.bk false).keep (fun o e => ?_) (fun a xs e => tk e), ⟨ik sgt.ob, lk sgt.nl (sep.nn true), dk sgt.a1 m1.1 m1.2.1 m1.2.2, dk sgt.a2 m2.1 m2.2.1 m2.2.2, dk sgt.a3 m3.1 m3.2.1 m3.2.2, sgt.n12, sgt.n13, sgt.n23, sgt.nd⟩,
        (tw10.bk true).keep (fun o e => ?_) (fun a xs e => tk e), lk tw10.hg (fun q => n4 (by rw [← q]; simp)), lk tw10.hb (fun q => n4 (by rw [← q]; simp))⟩
      · obtain ⟨as, h1, _⟩ := tw10.bk false
        rw [h1] at e
        cases e
        exact lk h1 (sep.nb false false).symm
      · obtain ⟨as, h1, _⟩ := tw10.bk true
        rw [h1] at e
        cases e
        exact lk h1 (sep.nb false true).symm
    walk_at "rd"
    refine ⟨_, _, _, _, _, _, es false, "abcdefgh", 0, false, rfl, tw10.sg false, tw10.ln false, by rw [l8]; omega, fun z => absurd nok z, fun _ z => absurd aok z, fun z1 z2 z3 v H11 s11 rv => ?_, fun z1 z2 z3 z4 v H11 s11 rv => ?_, fun z1 z2 z3 z4 H11 sg11 k11 => ?_⟩
    · obtain ⟨f1, f2, f3, f4, f5, f6⟩ := kf H11 fun a o e _ _ _ _ => s11 _ _ e
      walk_at "rd"
      have elen : (((es false).length : Nat) : Int) = ((as0.map V.ref).length : Int) := by rw [List.length_map, hlb0]
      refine ⟨p', dx', _, rfl, f1.ob, p', dx', n', c1, c2, c3, es false, rfl, f1, (es false).length, rfl, by have := tw10.ln false; omega, ?_⟩
      refine ⟨_, rfl, ?_⟩
      refine ⟨rfl, decide (V.int ((es false).length : Int) = V.int ((as0.map V.ref).length : Int)), rfl, ?_⟩
      rw [decide_eq_true (congrArg V.int elen)]
      refine (if_pos rfl).mpr ?_
      walk_at "rd"
      refine ⟨p', dx', n', c1, c2, c3, (S false).b, es false, rfl, f1, f2, tw10.ln false, tw10.ok false, fun H12 s12 => ?_⟩
      walk_at "rd"
      refine ⟨gl, _, _, _, rfl, rfl, SqL.of (s12 _ _ f5), atI_nat (j := 1) rfl, ?_⟩
      walk_at "rd"
      refine ⟨bl, _, _, _, rfl, rfl, SqL.of (s12 _ _ f6), atI_nat (j := 1) rfl, ?_⟩
      walk_at "rd"
      exact ⟨_, _, _, _, _, _, _, es true, rfl, f3.same s12, f4.keep (fun o e => s12 _ _ e) (fun a xs e => s12 _ _ e), tw10.ln true, tw10.ok true, fun H13 s13 => q0 _⟩
    · obtain ⟨f1, f2, f3, f4, f5, f6⟩ := kf H11 fun a o e _ _ _ _ => s11 _ _ e
      walk_at "rd"
      have elen : (((es false).length : Nat) : Int) = ((as0.map V.ref).length : Int) := by rw [List.length_map, hlb0]
      refine ⟨p', dx', _, rfl, f1.ob, p', dx', n', c1, c2, c3, es false, rfl, f1, (es false).length, rfl, by have := tw10.ln false; omega, ?_⟩
      refine ⟨_, rfl, ?_⟩
      refine ⟨rfl, decide (V.int ((es false).length : Int) = V.int ((as0.map V.ref).length : Int)), rfl, ?_⟩
      rw [decide_eq_true (congrArg V.int elen)]
      refine (if_pos rfl).mpr ?_
      walk_at "rd"
      refine ⟨p', dx', n', c1, c2, c3, (S false).b, es false, rfl, f1, f2, tw10.ln false, tw10.ok false, fun H12 s12 => ?_⟩
      walk_at "rd"
      refine ⟨gl, _, _, _, rfl, rfl, SqL.of (s12 _ _ f5), atI_nat (j := 1) rfl, ?_⟩
      walk_at "rd"
      refine ⟨bl, _, _, _, rfl, rfl, SqL.of (s12 _ _ f6), atI_nat (j := 1) rfl, ?_⟩
      walk_at "rd"
      exact ⟨_, _, _, _, _, _, _, es true, rfl, f3.same s12, f4.keep (fun o e => s12 _ _ e) (fun a xs e => s12 _ _ e), tw10.ln true, tw10.ok true, fun H13 s13 => q0 _⟩
    · obtain ⟨f1, f2, f3, f4, f5, f6⟩ := kf H11 k11
      walk_at "rd"
      have elen : (((es false).length : Nat) : Int) = ((as0.map V.ref).length : Int) := by rw [List.length_map, hlb0]
      refine ⟨p', dx', _, rfl, f1.ob, p', dx', n', c1, c2, c3, es false, rfl, f1, (es false).length, rfl, by have := tw10.ln false; omega, ?_⟩
      refine ⟨_, rfl, ?_⟩
      refine ⟨rfl, decide (V.int ((es false).length : Int) = V.int ((as0.map V.ref).length : Int)), rfl, ?_⟩
      rw [decide_eq_true (congrArg V.int elen)]
      refine (if_pos rfl).mpr ?_
      walk_at "rd"
      refine ⟨p', dx', n', c1, c2, c3, (S false).b, es false, rfl, f1, f2, tw10.ln false, tw10.ok false, fun H12 s12 => ?_⟩
      walk_at "rd"
      refine ⟨gl, _, _, _, rfl, rfl, SqL.of (s12 _ _ f5), atI_nat (j := 1) rfl, ?_⟩
      walk_at "rd"
      refine ⟨bl, _, _, _, rfl, rfl, SqL.of (s12 _ _ f6), atI_nat (j := 1) rfl, ?_⟩
      walk_at "rd"
      exact ⟨_, _, _, _, _, _, _, es true, rfl, f3.same s12, f4.keep (fun o e => s12 _ _ e) (fun a xs e => s12 _ _ e), tw10.ln true, tw10.ok true, fun H13 s13 => q0 _⟩

end
set_option maxHeartbeats 4000000 in
theorem all_mk {l : PySem.W.OpenLaw} {w : World} {K : PySem.W.Frag} {h : Heap} {mg : Str → Option Value} {fa : Addr} (X : K.In h) (G : h.Ns mainGlobals mg) (hfa : mg "law" = some (.ref fa))
    {c_HallError c_UnknownName c_InvalidName c_InvalidArity c_Duplicate c_TooLarge c_Signature : Addr}
    {tk_MAX_OPERATIONS tk_MAX_ARITY tk_MAX_NAME tk_LETTERS : Tok}
    {f0 f1 f2 f3 f4 f5 f6 f7 f8 f9 f10 f11 f12 f13 f14 f15 f16 f17 f18 f19 f20 f21 f22 f23 f24 f25 f26 f27 : Addr} {od0 an0 od1 an1 od2 an2 od3 an3 od4 an4 od5 an5 od6 an6 od7 an7 od8 an8 od9 an9 od10 an10 od11 an11 od12 an12 od13 an13 od14 an14 od15 an15 od16 an16 od17 an17 od18 an18 od19 an19 od20 an20 od21 an21 od22 an22 od23 an23 od24 an24 od25 an25 od26 an26 od27 an27 : Option Addr} {sl0 sl1 sl2 sl3 sl4 sl5 sl6 sl7 sl8 sl9 sl10 sl11 sl12 sl13 sl14 sl15 sl16 sl17 sl18 sl19 sl20 sl21 sl22 sl23 sl24 sl25 sl26 sl27 : Array (Option Value)} {oc0 kV0 dc0 pm0 cd0 ct0 oc1 kV1 dc1 pm1 cd1 ct1 oc2 kV2 dc2 pm2 cd2 ct2 oc3 kV3 dc3 pm3 cd3 ct3 oc4 kV4 dc4 pm4 cd4 ct4 oc5 kV5 dc5 pm5 cd5 ct5 oc6 dc6 pm6 cd6 ct6 oc7 kV7 dc7 pm7 cd7 ct7 oc8 kV8 dc8 pm8 cd8 ct8 oc9 kV9 dc9 pm9 cd9 ct9 oc10 kV10 dc10 pm10 cd10 ct10 oc11 kV11 dc11 pm11 cd11 ct11 oc12 kV12 dc12 pm12 cd12 ct12 oc13 kV13 dc13 pm13 cd13 ct13 oc14 kV14 dc14 pm14 cd14 ct14 oc15 kV15 dc15 pm15 cd15 ct15 oc16 kV16 dc16 pm16 cd16 ct16 oc17 kV17 dc17 pm17 cd17 ct17 oc18 kV18 dc18 pm18 cd18 ct18 oc19 kV19 dc19 pm19 cd19 ct19 oc20 kV20 dc20 pm20 cd20 ct20 oc21 kV21 dc21 pm21 cd21 ct21 oc22 kV22 dc22 pm22 cd22 ct22 oc23 kV23 dc23 pm23 cd23 ct23 oc24 kV24 dc24 pm24 cd24 ct24 oc25 kV25 dc25 pm25 cd25 ct25 oc26 kV26 dc26 pm26 cd26 ct26 oc27 kV27 dc27 pm27 cd27 ct27 : Value}
    (a0 : PySem.W.findIn K (.ref c_Signature) "__iter__" = some (some (.ref f0))) (t0 : PySem.W.typeIn K (.ref f0) = some (.type "function")) (l0 : K.lookup f0 = some ⟨oc0, od0, .func (PySem.W.fnOf "__iter__" "Signature.__iter__" (defArgs s_Signature___iter) (defBody s_Signature___iter) (defScope s_Signature___iter) .none kV0 dc0 pm0 an0 cd0 ct0), sl0⟩) (e0 : PySem.W.codeIn K cd0 "Signature.__iter__" = true) (k0 : PySem.W.keepIn K (.ref f0) = true)
    (a1 : PySem.W.findIn K (.ref c_Signature) "__len__" = some (some (.ref f1))) (t1 : PySem.W.typeIn K (.ref f1) = some (.type "function")) (l1 : K.lookup f1 = some ⟨oc1, od1, .func (PySem.W.fnOf "__len__" "Signature.__len__" (defArgs s_Signature___len) (defBody s_Signature___len) (defScope s_Signature___len) .none kV1 dc1 pm1 an1 cd1 ct1), sl1⟩) (e1 : PySem.W.codeIn K cd1 "Signature.__len__" = true) (k1 : PySem.W.keepIn K (.ref f1) = true)
    (a2 : PySem.W.nsIn K mainGlobals "_law_state" = some (some (.ref f2))) (l2 : K.lookup f2 = some ⟨oc2, od2, .func (PySem.W.fnOf "_law_state" "_law_state" (defArgs s_u_law_state) (defBody s_u_law_state) (defScope s_u_law_state) .none kV2 dc2 pm2 an2 cd2 ct2), sl2⟩) (e2 : PySem.W.codeIn K cd2 "_law_state" = true) (k2 : PySem.W.keepIn K (.ref f2) = true)
    (a3 : PySem.W.findIn K (.ref c_Signature) "__init__" = some (some (.ref f3))) (t3 : PySem.W.typeIn K (.ref f3) = some (.type "function")) (l3 : K.lookup f3 = some ⟨oc3, od3, .func (PySem.W.fnOf "__init__" "Signature.__init__" (defArgs s_Signature___init) (defBody s_Signature___init) (defScope s_Signature___init) .none kV3 dc3 pm3 an3 cd3 ct3), sl3⟩) (e3 : PySem.W.codeIn K cd3 "Signature.__init__" = true) (k3 : PySem.W.keepIn K (.ref f3) = true)
    (a4 : PySem.W.findIn K (.ref c_Signature) "__contains__" = some (some (.ref f4))) (t4 : PySem.W.typeIn K (.ref f4) = some (.type "function")) (l4 : K.lookup f4 = some ⟨oc4, od4, .func (PySem.W.fnOf "__contains__" "Signature.__contains__" (defArgs s_Signature___contains) (defBody s_Signature___contains) (defScope s_Signature___contains) .none kV4 dc4 pm4 an4 cd4 ct4), sl4⟩) (e4 : PySem.W.codeIn K cd4 "Signature.__contains__" = true) (k4 : PySem.W.keepIn K (.ref f4) = true)
    (a5 : PySem.W.nsIn K mainGlobals "is_name" = some (some (.ref f5))) (l5 : K.lookup f5 = some ⟨oc5, od5, .func (PySem.W.fnOf "is_name" "is_name" (defArgs s_is_name) (defBody s_is_name) (defScope s_is_name) .none kV5 dc5 pm5 an5 cd5 ct5), sl5⟩) (e5 : PySem.W.codeIn K cd5 "is_name" = true) (k5 : PySem.W.keepIn K (.ref f5) = true)
    {kd6 : Addr}
    (a6 : PySem.W.findIn K (.ref c_Signature) "declare" = some (some (.ref f6))) (t6 : PySem.W.typeIn K (.ref f6) = some (.type "function")) (l6 : K.lookup f6 = some ⟨oc6, od6, .func (PySem.W.fnOf "declare" "Signature.declare" (defArgs s_Signature_declare) (defBody s_Signature_declare) (defScope s_Signature_declare) .none (.ref kd6) dc6 pm6 an6 cd6 ct6), sl6⟩) (e6 : PySem.W.codeIn K cd6 "Signature.declare" = true) (k6 : PySem.W.keepIn K (.ref f6) = true)
    (kq6_commutative : PySem.W.nsIn K kd6 "commutative" = some (some (.bool false)))
    (a7 : PySem.W.findIn K (.ref c_UnknownName) "__init__" = some (some (.ref f7))) (t7 : PySem.W.typeIn K (.ref f7) = some (.type "function")) (l7 : K.lookup f7 = some ⟨oc7, od7, .func (PySem.W.fnOf "__init__" "UnknownName.__init__" (defArgs s_UnknownName___init) (defBody s_UnknownName___init) (defScope s_UnknownName___init) .none kV7 dc7 pm7 an7 cd7 ct7), sl7⟩) (e7 : PySem.W.codeIn K cd7 "UnknownName.__init__" = true) (k7 : PySem.W.keepIn K (.ref f7) = true)
    (a8 : PySem.W.findIn K (.ref c_Signature) "_require" = some (some (.ref f8))) (t8 : PySem.W.typeIn K (.ref f8) = some (.type "function")) (l8 : K.lookup f8 = some ⟨oc8, od8, .func (PySem.W.fnOf "_require" "Signature._require" (defArgs s_Signature__require) (defBody s_Signature__require) (defScope s_Signature__require) .none kV8 dc8 pm8 an8 cd8 ct8), sl8⟩) (e8 : PySem.W.codeIn K cd8 "Signature._require" = true) (k8 : PySem.W.keepIn K (.ref f8) = true)
    (a9 : PySem.W.findIn K (.ref c_Signature) "arity" = some (some (.ref f9))) (t9 : PySem.W.typeIn K (.ref f9) = some (.type "function")) (l9 : K.lookup f9 = some ⟨oc9, od9, .func (PySem.W.fnOf "arity" "Signature.arity" (defArgs s_Signature_arity) (defBody s_Signature_arity) (defScope s_Signature_arity) .none kV9 dc9 pm9 an9 cd9 ct9), sl9⟩) (e9 : PySem.W.codeIn K cd9 "Signature.arity" = true) (k9 : PySem.W.keepIn K (.ref f9) = true)
    (a10 : PySem.W.findIn K (.ref c_Signature) "rank" = some (some (.ref f10))) (t10 : PySem.W.typeIn K (.ref f10) = some (.type "function")) (l10 : K.lookup f10 = some ⟨oc10, od10, .func (PySem.W.fnOf "rank" "Signature.rank" (defArgs s_Signature_rank) (defBody s_Signature_rank) (defScope s_Signature_rank) .none kV10 dc10 pm10 an10 cd10 ct10), sl10⟩) (e10 : PySem.W.codeIn K cd10 "Signature.rank" = true) (k10 : PySem.W.keepIn K (.ref f10) = true)
    (a11 : PySem.W.findIn K (.ref c_Signature) "is_commutative" = some (some (.ref f11))) (t11 : PySem.W.typeIn K (.ref f11) = some (.type "function")) (l11 : K.lookup f11 = some ⟨oc11, od11, .func (PySem.W.fnOf "is_commutative" "Signature.is_commutative" (defArgs s_Signature_is_commutative) (defBody s_Signature_is_commutative) (defScope s_Signature_is_commutative) .none kV11 dc11 pm11 an11 cd11 ct11), sl11⟩) (e11 : PySem.W.codeIn K cd11 "Signature.is_commutative" = true) (k11 : PySem.W.keepIn K (.ref f11) = true)
    (a12 : PySem.W.findIn K (.ref c_Signature) "constants" = some (some (.ref f12))) (t12 : PySem.W.typeIn K (.ref f12) = some (.type "function")) (l12 : K.lookup f12 = some ⟨oc12, od12, .func (PySem.W.fnOf "constants" "Signature.constants" (defArgs s_Signature_constants) (defBody s_Signature_constants) (defScope s_Signature_constants) .none kV12 dc12 pm12 an12 cd12 ct12), sl12⟩) (e12 : PySem.W.codeIn K cd12 "Signature.constants" = true) (k12 : PySem.W.keepIn K (.ref f12) = true)
    (a13 : PySem.W.nsIn K mainGlobals "_wall" = some (some (.ref f13))) (l13 : K.lookup f13 = some ⟨oc13, od13, .func (PySem.W.fnOf "_wall" "_wall" (defArgs s_u_wall) (defBody s_u_wall) (defScope s_u_wall) .none kV13 dc13 pm13 an13 cd13 ct13), sl13⟩) (e13 : PySem.W.codeIn K cd13 "_wall" = true) (k13 : PySem.W.keepIn K (.ref f13) = true)
    (a14 : PySem.W.findIn K (.ref c_Signature) "check" = some (some (.ref f14))) (t14 : PySem.W.typeIn K (.ref f14) = some (.type "function")) (l14 : K.lookup f14 = some ⟨oc14, od14, .func (PySem.W.fnOf "check" "Signature.check" (defArgs s_Signature_check) (defBody s_Signature_check) (defScope s_Signature_check) .none kV14 dc14 pm14 an14 cd14 ct14), sl14⟩) (e14 : PySem.W.codeIn K cd14 "Signature.check" = true) (k14 : PySem.W.keepIn K (.ref f14) = true)
    (a15 : PySem.W.findIn K (.ref c_Signature) "copy" = some (some (.ref f15))) (t15 : PySem.W.typeIn K (.ref f15) = some (.type "function")) (l15 : K.lookup f15 = some ⟨oc15, od15, .func (PySem.W.fnOf "copy" "Signature.copy" (defArgs s_Signature_copy) (defBody s_Signature_copy) (defScope s_Signature_copy) .none kV15 dc15 pm15 an15 cd15 ct15), sl15⟩) (e15 : PySem.W.codeIn K cd15 "Signature.copy" = true) (k15 : PySem.W.keepIn K (.ref f15) = true)
    (a16 : PySem.W.nsIn K mainGlobals "_law_told" = some (some (.ref f16))) (l16 : K.lookup f16 = some ⟨oc16, od16, .func (PySem.W.fnOf "_law_told" "_law_told" (defArgs s_u_law_told) (defBody s_u_law_told) (defScope s_u_law_told) .none kV16 dc16 pm16 an16 cd16 ct16), sl16⟩) (e16 : PySem.W.codeIn K cd16 "_law_told" = true) (k16 : PySem.W.keepIn K (.ref f16) = true)
    (a17 : PySem.W.nsIn K mainGlobals "_law_mix" = some (some (.ref f17))) (l17 : K.lookup f17 = some ⟨oc17, od17, .func (PySem.W.fnOf "_law_mix" "_law_mix" (defArgs s_u_law_mix) (defBody s_u_law_mix) (defScope s_u_law_mix) .none kV17 dc17 pm17 an17 cd17 ct17), sl17⟩) (e17 : PySem.W.codeIn K cd17 "_law_mix" = true) (k17 : PySem.W.keepIn K (.ref f17) = true)
    (a18 : PySem.W.nsIn K mainGlobals "_law_number" = some (some (.ref f18))) (l18 : K.lookup f18 = some ⟨oc18, od18, .func (PySem.W.fnOf "_law_number" "_law_number" (defArgs s_u_law_number) (defBody s_u_law_number) (defScope s_u_law_number) .none kV18 dc18 pm18 an18 cd18 ct18), sl18⟩) (e18 : PySem.W.codeIn K cd18 "_law_number" = true) (k18 : PySem.W.keepIn K (.ref f18) = true)
    (a19 : PySem.W.nsIn K mainGlobals "_law_draw" = some (some (.ref f19))) (l19 : K.lookup f19 = some ⟨oc19, od19, .func (PySem.W.fnOf "_law_draw" "_law_draw" (defArgs s_u_law_draw) (defBody s_u_law_draw) (defScope s_u_law_draw) .none kV19 dc19 pm19 an19 cd19 ct19), sl19⟩) (e19 : PySem.W.codeIn K cd19 "_law_draw" = true) (k19 : PySem.W.keepIn K (.ref f19) = true)
    (a20 : PySem.W.nsIn K mainGlobals "_law_name" = some (some (.ref f20))) (l20 : K.lookup f20 = some ⟨oc20, od20, .func (PySem.W.fnOf "_law_name" "_law_name" (defArgs s_u_law_name) (defBody s_u_law_name) (defScope s_u_law_name) .none kV20 dc20 pm20 an20 cd20 ct20), sl20⟩) (e20 : PySem.W.codeIn K cd20 "_law_name" = true) (k20 : PySem.W.keepIn K (.ref f20) = true)
    (a21 : PySem.W.nsIn K mainGlobals "_law_is_name" = some (some (.ref f21))) (l21 : K.lookup f21 = some ⟨oc21, od21, .func (PySem.W.fnOf "_law_is_name" "_law_is_name" (defArgs s_u_law_is_name) (defBody s_u_law_is_name) (defScope s_u_law_is_name) .none kV21 dc21 pm21 an21 cd21 ct21), sl21⟩) (e21 : PySem.W.codeIn K cd21 "_law_is_name" = true) (k21 : PySem.W.keepIn K (.ref f21) = true)
    (a22 : PySem.W.nsIn K mainGlobals "_law_due" = some (some (.ref f22))) (l22 : K.lookup f22 = some ⟨oc22, od22, .func (PySem.W.fnOf "_law_due" "_law_due" (defArgs s_u_law_due) (defBody s_u_law_due) (defScope s_u_law_due) .none kV22 dc22 pm22 an22 cd22 ct22), sl22⟩) (e22 : PySem.W.codeIn K cd22 "_law_due" = true) (k22 : PySem.W.keepIn K (.ref f22) = true)
    (a23 : PySem.W.nsIn K mainGlobals "_law_unknown" = some (some (.ref f23))) (l23 : K.lookup f23 = some ⟨oc23, od23, .func (PySem.W.fnOf "_law_unknown" "_law_unknown" (defArgs s_u_law_unknown) (defBody s_u_law_unknown) (defScope s_u_law_unknown) .none kV23 dc23 pm23 an23 cd23 ct23), sl23⟩) (e23 : PySem.W.codeIn K cd23 "_law_unknown" = true) (k23 : PySem.W.keepIn K (.ref f23) = true)
    (a24 : PySem.W.nsIn K mainGlobals "_law_tells" = some (some (.ref f24))) (l24 : K.lookup f24 = some ⟨oc24, od24, .func (PySem.W.fnOf "_law_tells" "_law_tells" (defArgs s_u_law_tells) (defBody s_u_law_tells) (defScope s_u_law_tells) .none kV24 dc24 pm24 an24 cd24 ct24), sl24⟩) (e24 : PySem.W.codeIn K cd24 "_law_tells" = true) (k24 : PySem.W.keepIn K (.ref f24) = true)
    (a25 : PySem.W.nsIn K mainGlobals "_law_agrees" = some (some (.ref f25))) (l25 : K.lookup f25 = some ⟨oc25, od25, .func (PySem.W.fnOf "_law_agrees" "_law_agrees" (defArgs s_u_law_agrees) (defBody s_u_law_agrees) (defScope s_u_law_agrees) .none kV25 dc25 pm25 an25 cd25 ct25), sl25⟩) (e25 : PySem.W.codeIn K cd25 "_law_agrees" = true) (k25 : PySem.W.keepIn K (.ref f25) = true)
    (a26 : PySem.W.nsIn K mainGlobals "_law_is_integer" = some (some (.ref f26))) (l26 : K.lookup f26 = some ⟨oc26, od26, .func (PySem.W.fnOf "_law_is_integer" "_law_is_integer" (defArgs s_u_law_is_integer) (defBody s_u_law_is_integer) (defScope s_u_law_is_integer) .none kV26 dc26 pm26 an26 cd26 ct26), sl26⟩) (e26 : PySem.W.codeIn K cd26 "_law_is_integer" = true) (k26 : PySem.W.keepIn K (.ref f26) = true)
    (a27 : PySem.W.nsIn K mainGlobals "law" = some (some (.ref f27))) (l27 : K.lookup f27 = some ⟨oc27, od27, .func (PySem.W.fnOf "law" "law" (defArgs s_law) (defBody s_law) (defScope s_law) .none kV27 dc27 pm27 an27 cd27 ct27), sl27⟩) (e27 : PySem.W.codeIn K cd27 "law" = true) (k27 : PySem.W.keepIn K (.ref f27) = true)
    (z_ValueError : PySem.W.nsIn K mainGlobals "ValueError" = some none)
    (z_all : PySem.W.nsIn K mainGlobals "all" = some none)
    (z_bool : PySem.W.nsIn K mainGlobals "bool" = some none)
    (z_int : PySem.W.nsIn K mainGlobals "int" = some none)
    (z_isinstance : PySem.W.nsIn K mainGlobals "isinstance" = some none)
    (z_iter : PySem.W.nsIn K mainGlobals "iter" = some none)
    (z_len : PySem.W.nsIn K mainGlobals "len" = some none)
    (z_list : PySem.W.nsIn K mainGlobals "list" = some none)
    (z_range : PySem.W.nsIn K mainGlobals "range" = some none)
    (zc_MAX_OPERATIONS : PySem.W.nsIn K mainGlobals "MAX_OPERATIONS" = some (some (.int 12 tk_MAX_OPERATIONS)))
    (zc_MAX_ARITY : PySem.W.nsIn K mainGlobals "MAX_ARITY" = some (some (.int 3 tk_MAX_ARITY)))
    (zc_MAX_NAME : PySem.W.nsIn K mainGlobals "MAX_NAME" = some (some (.int 8 tk_MAX_NAME)))
    (zc_LETTERS : PySem.W.nsIn K mainGlobals "LETTERS" = some (some (.str "abcdefghijklmnopqrstuvwxyz" tk_LETTERS)))
    (xa_HallError : PySem.W.nsIn K mainGlobals "HallError" = some (some (.ref c_HallError)))
    (xk_HallError : PySem.W.keepIn K (.ref c_HallError) = true)
    (xe_HallError : PySem.W.excIn K c_HallError [.type "ValueError", .type "Exception", .type "BaseException", .type "object"] "ValueError.__new__" = true)
    (xb_HallError : PySem.W.subIn K (.ref c_HallError) (.type "BaseException") = some true)
    (xt_HallError : PySem.W.typeIn K (.ref c_HallError) = some (.type "type"))
    (xs_HallError : PySem.W.subIn K (.ref c_HallError) (.ref c_HallError) = some true)
    (xhg_HallError : PySem.W.findIn K (.ref c_HallError) "__getattribute__" = some (some (.builtin "BaseException.__getattribute__")))
    (xhk_HallError : PySem.W.findIn K (.ref c_HallError) "__getattr__" = some none)
    (xhd_HallError : PySem.W.hasDictIn K c_HallError = true)
    (xha_HallError : PySem.W.findIn K (.ref c_HallError) "__class__" = some (some (.builtin "object.__class__")))
    (xhn_HallError : PySem.W.specialIn K (.builtin "object.__class__") "__get__" = some (some (.builtin "getset_descriptor.__get__")))
    (xht_HallError : PySem.W.takesIn K (.builtin "object.__class__") = some true)
    (xhm_HallError : PySem.W.mroIn K c_HallError (.type "object") = some true)
    (xo_UnknownName : K.lookup c_UnknownName = some (excClassObj nm_UnknownName q_UnknownName c_UnknownName N_UnknownName bs_UnknownName bm_UnknownName true sn_UnknownName sub_UnknownName ab_UnknownName col_UnknownName dd_UnknownName k0_UnknownName k1_UnknownName k2_UnknownName k3_UnknownName k5_UnknownName "ValueError.__new__")) (xr_UnknownName : PySem.HandSPX.refsVE bm_UnknownName = true) (xsa_UnknownName : PySem.W.findIn K (.ref c_UnknownName) "__setattr__" = some (some (.builtin "object.__setattr__")))
    (xa_UnknownName : PySem.W.nsIn K mainGlobals "UnknownName" = some (some (.ref c_UnknownName)))
    (xk_UnknownName : PySem.W.keepIn K (.ref c_UnknownName) = true)
    (xb_UnknownName : PySem.W.subIn K (.ref c_UnknownName) (.type "BaseException") = some true)
    (xt_UnknownName : PySem.W.typeIn K (.ref c_UnknownName) = some (.type "type"))
    (xs_UnknownName : PySem.W.subIn K (.ref c_UnknownName) (.ref c_UnknownName) = some true)
    (xhg_UnknownName : PySem.W.findIn K (.ref c_UnknownName) "__getattribute__" = some (some (.builtin "BaseException.__getattribute__")))
    (xhk_UnknownName : PySem.W.findIn K (.ref c_UnknownName) "__getattr__" = some none)
    (xhd_UnknownName : PySem.W.hasDictIn K c_UnknownName = true)
    (xha_UnknownName : PySem.W.findIn K (.ref c_UnknownName) "__class__" = some (some (.builtin "object.__class__")))
    (xhn_UnknownName : PySem.W.specialIn K (.builtin "object.__class__") "__get__" = some (some (.builtin "getset_descriptor.__get__")))
    (xht_UnknownName : PySem.W.takesIn K (.builtin "object.__class__") = some true)
    (xhm_UnknownName : PySem.W.mroIn K c_UnknownName (.type "object") = some true)
    (xa_InvalidName : PySem.W.nsIn K mainGlobals "InvalidName" = some (some (.ref c_InvalidName)))
    (xk_InvalidName : PySem.W.keepIn K (.ref c_InvalidName) = true)
    (xe_InvalidName : PySem.W.excIn K c_InvalidName [.type "ValueError", .type "Exception", .type "BaseException", .type "object"] "ValueError.__new__" = true)
    (xb_InvalidName : PySem.W.subIn K (.ref c_InvalidName) (.type "BaseException") = some true)
    (xt_InvalidName : PySem.W.typeIn K (.ref c_InvalidName) = some (.type "type"))
    (xs_InvalidName : PySem.W.subIn K (.ref c_InvalidName) (.ref c_InvalidName) = some true)
    (xhg_InvalidName : PySem.W.findIn K (.ref c_InvalidName) "__getattribute__" = some (some (.builtin "BaseException.__getattribute__")))
    (xhk_InvalidName : PySem.W.findIn K (.ref c_InvalidName) "__getattr__" = some none)
    (xhd_InvalidName : PySem.W.hasDictIn K c_InvalidName = true)
    (xha_InvalidName : PySem.W.findIn K (.ref c_InvalidName) "__class__" = some (some (.builtin "object.__class__")))
    (xhn_InvalidName : PySem.W.specialIn K (.builtin "object.__class__") "__get__" = some (some (.builtin "getset_descriptor.__get__")))
    (xht_InvalidName : PySem.W.takesIn K (.builtin "object.__class__") = some true)
    (xhm_InvalidName : PySem.W.mroIn K c_InvalidName (.type "object") = some true)
    (xa_InvalidArity : PySem.W.nsIn K mainGlobals "InvalidArity" = some (some (.ref c_InvalidArity)))
    (xk_InvalidArity : PySem.W.keepIn K (.ref c_InvalidArity) = true)
    (xe_InvalidArity : PySem.W.excIn K c_InvalidArity [.type "ValueError", .type "Exception", .type "BaseException", .type "object"] "ValueError.__new__" = true)
    (xb_InvalidArity : PySem.W.subIn K (.ref c_InvalidArity) (.type "BaseException") = some true)
    (xt_InvalidArity : PySem.W.typeIn K (.ref c_InvalidArity) = some (.type "type"))
    (xs_InvalidArity : PySem.W.subIn K (.ref c_InvalidArity) (.ref c_InvalidArity) = some true)
    (xhg_InvalidArity : PySem.W.findIn K (.ref c_InvalidArity) "__getattribute__" = some (some (.builtin "BaseException.__getattribute__")))
    (xhk_InvalidArity : PySem.W.findIn K (.ref c_InvalidArity) "__getattr__" = some none)
    (xhd_InvalidArity : PySem.W.hasDictIn K c_InvalidArity = true)
    (xha_InvalidArity : PySem.W.findIn K (.ref c_InvalidArity) "__class__" = some (some (.builtin "object.__class__")))
    (xhn_InvalidArity : PySem.W.specialIn K (.builtin "object.__class__") "__get__" = some (some (.builtin "getset_descriptor.__get__")))
    (xht_InvalidArity : PySem.W.takesIn K (.builtin "object.__class__") = some true)
    (xhm_InvalidArity : PySem.W.mroIn K c_InvalidArity (.type "object") = some true)
    (xa_Duplicate : PySem.W.nsIn K mainGlobals "Duplicate" = some (some (.ref c_Duplicate)))
    (xk_Duplicate : PySem.W.keepIn K (.ref c_Duplicate) = true)
    (xe_Duplicate : PySem.W.excIn K c_Duplicate [.type "ValueError", .type "Exception", .type "BaseException", .type "object"] "ValueError.__new__" = true)
    (xb_Duplicate : PySem.W.subIn K (.ref c_Duplicate) (.type "BaseException") = some true)
    (xt_Duplicate : PySem.W.typeIn K (.ref c_Duplicate) = some (.type "type"))
    (xs_Duplicate : PySem.W.subIn K (.ref c_Duplicate) (.ref c_Duplicate) = some true)
    (xhg_Duplicate : PySem.W.findIn K (.ref c_Duplicate) "__getattribute__" = some (some (.builtin "BaseException.__getattribute__")))
    (xhk_Duplicate : PySem.W.findIn K (.ref c_Duplicate) "__getattr__" = some none)
    (xhd_Duplicate : PySem.W.hasDictIn K c_Duplicate = true)
    (xha_Duplicate : PySem.W.findIn K (.ref c_Duplicate) "__class__" = some (some (.builtin "object.__class__")))
    (xhn_Duplicate : PySem.W.specialIn K (.builtin "object.__class__") "__get__" = some (some (.builtin "getset_descriptor.__get__")))
    (xht_Duplicate : PySem.W.takesIn K (.builtin "object.__class__") = some true)
    (xhm_Duplicate : PySem.W.mroIn K c_Duplicate (.type "object") = some true)
    (xa_TooLarge : PySem.W.nsIn K mainGlobals "TooLarge" = some (some (.ref c_TooLarge)))
    (xk_TooLarge : PySem.W.keepIn K (.ref c_TooLarge) = true)
    (xe_TooLarge : PySem.W.excIn K c_TooLarge [.type "ValueError", .type "Exception", .type "BaseException", .type "object"] "ValueError.__new__" = true)
    (xb_TooLarge : PySem.W.subIn K (.ref c_TooLarge) (.type "BaseException") = some true)
    (xt_TooLarge : PySem.W.typeIn K (.ref c_TooLarge) = some (.type "type"))
    (xs_TooLarge : PySem.W.subIn K (.ref c_TooLarge) (.ref c_TooLarge) = some true)
    (xhg_TooLarge : PySem.W.findIn K (.ref c_TooLarge) "__getattribute__" = some (some (.builtin "BaseException.__getattribute__")))
    (xhk_TooLarge : PySem.W.findIn K (.ref c_TooLarge) "__getattr__" = some none)
    (xhd_TooLarge : PySem.W.hasDictIn K c_TooLarge = true)
    (xha_TooLarge : PySem.W.findIn K (.ref c_TooLarge) "__class__" = some (some (.builtin "object.__class__")))
    (xhn_TooLarge : PySem.W.specialIn K (.builtin "object.__class__") "__get__" = some (some (.builtin "getset_descriptor.__get__")))
    (xht_TooLarge : PySem.W.takesIn K (.builtin "object.__class__") = some true)
    (xhm_TooLarge : PySem.W.mroIn K c_TooLarge (.type "object") = some true)
    (xa_Signature : PySem.W.nsIn K mainGlobals "Signature" = some (some (.ref c_Signature)))
    (xpg_Signature : PySem.W.plainGet K c_Signature Str.empty = true)
    (xhd_Signature : PySem.W.hasDictIn K c_Signature = true)
    (xpo_Signature : PySem.W.plainOver K c_Signature = true)
    (xsa_Signature : PySem.W.findIn K (.ref c_Signature) "__setattr__" = some (some (.builtin "object.__setattr__")))
    (xmk_Signature : PySem.W.makesIn K c_Signature = true)
    (xkc_Signature : PySem.W.keepIn K (.ref c_Signature) = true)
    (xN_Signature__names : PySem.W.findIn K (.ref c_Signature) "_names" = some none)
    (xN_Signature__arities : PySem.W.findIn K (.ref c_Signature) "_arities" = some none)
    (xN_Signature__ranks : PySem.W.findIn K (.ref c_Signature) "_ranks" = some none)
    (xN_Signature__flags : PySem.W.findIn K (.ref c_Signature) "_flags" = some none)
    (i0 : PySem.W.isFn K (.ref f0) = true)
    (i1 : PySem.W.isFn K (.ref f1) = true)
    (i3 : PySem.W.isFn K (.ref f3) = true)
    (i4 : PySem.W.isFn K (.ref f4) = true)
    (i6 : PySem.W.isFn K (.ref f6) = true)
    (i8 : PySem.W.isFn K (.ref f8) = true)
    (i9 : PySem.W.isFn K (.ref f9) = true)
    (i10 : PySem.W.isFn K (.ref f10) = true)
    (i11 : PySem.W.isFn K (.ref f11) = true)
    (i12 : PySem.W.isFn K (.ref f12) = true)
    (i14 : PySem.W.isFn K (.ref f14) = true)
    (i15 : PySem.W.isFn K (.ref f15) = true)
    (ff_nf_name_UnknownName : PySem.W.findIn K (.ref c_UnknownName) "name" = some none)
    (ff_kit_InvalidName_HallError : PySem.W.kitOne K (.ref c_InvalidName) (.ref c_HallError) = some true)
    (ff_kit_InvalidName_InvalidArity : PySem.W.kitOne K (.ref c_InvalidName) (.ref c_InvalidArity) = some false)
    (ff_kit_InvalidArity_ValueError : PySem.W.kitOne K (.ref c_InvalidArity) (.type "ValueError") = some true)
    (ff_kit_InvalidArity_Duplicate : PySem.W.kitOne K (.ref c_InvalidArity) (.ref c_Duplicate) = some false)
    (ff_kit_Duplicate_TooLarge : PySem.W.kitOne K (.ref c_Duplicate) (.ref c_TooLarge) = some false)
    (ff_sub_R_N : PySem.W.subIn K (.ref c_InvalidArity) (.ref c_InvalidName) = some false)
    (ff_sub_D_N : PySem.W.subIn K (.ref c_Duplicate) (.ref c_InvalidName) = some false)
    (ff_sub_D_R : PySem.W.subIn K (.ref c_Duplicate) (.ref c_InvalidArity) = some false)
    (ff_sub_L_N : PySem.W.subIn K (.ref c_TooLarge) (.ref c_InvalidName) = some false)
    (ff_sub_L_R : PySem.W.subIn K (.ref c_TooLarge) (.ref c_InvalidArity) = some false)
    (ff_sub_L_D : PySem.W.subIn K (.ref c_TooLarge) (.ref c_Duplicate) = some false)
    : ∃ fd : FuncData, (∀ (s : Shared) (v : Value), BindsTo s fd ⟨[v], []⟩ [("script", v)]) ∧ ∀ base : Heap, K.In base → base.Ns mainGlobals mg → FnOk l.prog w K mg base CX0 40 fa fd ["script"] (sp_law K) := by
  have e := hfa.symm.trans (PySem.W.mg_of X G a27)
  cases e
  have F0 := fun_mk (st := s_Signature___iter) l0 e0 k0
  have b0 := F0.binds (ps := ["self"]) fun _ _ _ _ _ _ us hl => match us, hl with | [_], _ => rfl
  have F1 := fun_mk (st := s_Signature___len) l1 e1 k1
  have b1 := F1.binds (ps := ["self"]) fun _ _ _ _ _ _ us hl => match us, hl with | [_], _ => rfl
  have F2 := fun_mk (st := s_u_law_state) l2 e2 k2
  have b2 := F2.binds (ps := ["script"]) fun _ _ _ _ _ _ us hl => match us, hl with | [_], _ => rfl
  have F3 := fun_mk (st := s_Signature___init) l3 e3 k3
  have b3 := F3.binds (ps := ["self"]) fun _ _ _ _ _ _ us hl => match us, hl with | [_], _ => rfl
  have F4 := fun_mk (st := s_Signature___contains) l4 e4 k4
  have b4 := F4.binds (ps := ["self", "name"]) fun _ _ _ _ _ _ us hl => match us, hl with | [_, _], _ => rfl
  have F5 := fun_mk (st := s_is_name) l5 e5 k5
  have b5 := F5.binds (ps := ["text"]) fun _ _ _ _ _ _ us hl => match us, hl with | [_], _ => rfl
  have F6 : FunD K "declare" "Signature.declare" (defArgs s_Signature_declare) (defBody s_Signature_declare) (defScope s_Signature_declare) [] [("commutative", .bl false)] f6 (PySem.W.fnOf "declare" "Signature.declare" (defArgs s_Signature_declare) (defBody s_Signature_declare) (defScope s_Signature_declare) .none (.ref kd6) dc6 pm6 an6 cd6 ct6) := ⟨⟨_, _, _, _, _, _, _, _, _, _, rfl, l6, e6, .inl ⟨rfl, rfl⟩, .inr ⟨kd6, rfl, fun q hq => by rw [List.mem_singleton.mp hq]; exact ⟨_, kq6_commutative, rfl⟩⟩⟩, k6⟩
  have b6 := F6.binds0 (ps := ["self", "name", "arity", "commutative"]) 3 (by decide) rfl fun D doc pm an cdv ct us ks l1 l2 => match us, l1, ks, l2 with | [_, _, _], _, [_], _ => ⟨_, _, _, _, _, _, rfl, rfl, rfl⟩
  have kb6 := kbn_all (ps := ["self", "name", "arity", "commutative"]) F6 3 ["commutative"] fun kV doc pm an cdv ct us ws l1 l2 => match us, l1, ws, l2 with | [_, _, _], _, [_], _ => rfl
  have F7 := fun_mk (st := s_UnknownName___init) l7 e7 k7
  have b7 := F7.binds (ps := ["self", "name"]) fun _ _ _ _ _ _ us hl => match us, hl with | [_, _], _ => rfl
  have F8 := fun_mk (st := s_Signature__require) l8 e8 k8
  have b8 := F8.binds (ps := ["self", "name"]) fun _ _ _ _ _ _ us hl => match us, hl with | [_, _], _ => rfl
  have F9 := fun_mk (st := s_Signature_arity) l9 e9 k9
  have b9 := F9.binds (ps := ["self", "name"]) fun _ _ _ _ _ _ us hl => match us, hl with | [_, _], _ => rfl
  have F10 := fun_mk (st := s_Signature_rank) l10 e10 k10
  have b10 := F10.binds (ps := ["self", "name"]) fun _ _ _ _ _ _ us hl => match us, hl with | [_, _], _ => rfl
  have F11 := fun_mk (st := s_Signature_is_commutative) l11 e11 k11
  have b11 := F11.binds (ps := ["self", "name"]) fun _ _ _ _ _ _ us hl => match us, hl with | [_, _], _ => rfl
  have F12 := fun_mk (st := s_Signature_constants) l12 e12 k12
  have b12 := F12.binds (ps := ["self"]) fun _ _ _ _ _ _ us hl => match us, hl with | [_], _ => rfl
  have F13 := fun_mk (st := s_u_wall) l13 e13 k13
  have b13 := F13.binds (ps := ["k"]) fun _ _ _ _ _ _ us hl => match us, hl with | [_], _ => rfl
  have F14 := fun_mk (st := s_Signature_check) l14 e14 k14
  have b14 := F14.binds (ps := ["self", "term"]) fun _ _ _ _ _ _ us hl => match us, hl with | [_, _], _ => rfl
  have F15 := fun_mk (st := s_Signature_copy) l15 e15 k15
  have b15 := F15.binds (ps := ["self"]) fun _ _ _ _ _ _ us hl => match us, hl with | [_], _ => rfl
  have F16 := fun_mk (st := s_u_law_told) l16 e16 k16
  have b16 := F16.binds (ps := ["signature", "name", "arity", "flag"]) fun _ _ _ _ _ _ us hl => match us, hl with | [_, _, _, _], _ => rfl
  have F17 := fun_mk (st := s_u_law_mix) l17 e17 k17
  have b17 := F17.binds (ps := ["cell"]) fun _ _ _ _ _ _ us hl => match us, hl with | [_], _ => rfl
  have F18 := fun_mk (st := s_u_law_number) l18 e18 k18
  have b18 := F18.binds (ps := ["cell"]) fun _ _ _ _ _ _ us hl => match us, hl with | [_], _ => rfl
  have F19 := fun_mk (st := s_u_law_draw) l19 e19 k19
  have b19 := F19.binds (ps := ["state", "many"]) fun _ _ _ _ _ _ us hl => match us, hl with | [_, _], _ => rfl
  have F20 := fun_mk (st := s_u_law_name) l20 e20 k20
  have b20 := F20.binds (ps := ["state", "known"]) fun _ _ _ _ _ _ us hl => match us, hl with | [_, _], _ => rfl
  have F21 := fun_mk (st := s_u_law_is_name) l21 e21 k21
  have b21 := F21.binds (ps := ["word"]) fun _ _ _ _ _ _ us hl => match us, hl with | [_], _ => rfl
  have F22 := fun_mk (st := s_u_law_due) l22 e22 k22
  have b22 := F22.binds (ps := ["accepted", "name", "arity", "flag"]) fun _ _ _ _ _ _ us hl => match us, hl with | [_, _, _, _], _ => rfl
  have F23 := fun_mk (st := s_u_law_unknown) l23 e23 k23
  have b23 := F23.binds (ps := ["signature", "name"]) fun _ _ _ _ _ _ us hl => match us, hl with | [_, _], _ => rfl
  have F24 := fun_mk (st := s_u_law_tells) l24 e24 k24
  have b24 := F24.binds (ps := ["actual", "due"]) fun _ _ _ _ _ _ us hl => match us, hl with | [_, _], _ => rfl
  have F25 := fun_mk (st := s_u_law_agrees) l25 e25 k25
  have b25 := F25.binds (ps := ["signature", "accepted"]) fun _ _ _ _ _ _ us hl => match us, hl with | [_, _], _ => rfl
  have F26 := fun_mk (st := s_u_law_is_integer) l26 e26 k26
  have b26 := F26.binds (ps := ["actual"]) fun _ _ _ _ _ _ us hl => match us, hl with | [_], _ => rfl
  have F27 := fun_mk (st := s_law) l27 e27 k27
  have b27 := F27.binds (ps := ["script"]) fun _ _ _ _ _ _ us hl => match us, hl with | [_], _ => rfl
  have T : Tx K mg ⟨f0, _, f1, _, f2, _, f3, _, f4, _, f5, _, f6, _, f7, _, f8, _, f9, _, f10, _, f11, _, f12, _, f13, _, f14, _, f15, _, f16, _, f17, _, f18, _, f19, _, f20, _, f21, _, f22, _, f23, _, f24, _, f25, _, f26, _, fa, _, c_HallError, c_UnknownName, c_InvalidName, c_InvalidArity, c_Duplicate, c_TooLarge, c_Signature⟩ := ⟨F0, b0, F1, b1, F2, b2, PySem.W.mg_of X G a2, F3, b3, F4, b4, F5, b5, PySem.W.mg_of X G a5, F6, b6, kb6, F7, b7, F8, b8, F9, b9, F10, b10, F11, b11, F12, b12, F13, b13, PySem.W.mg_of X G a13, F14, b14, F15, b15, F16, b16, PySem.W.mg_of X G a16, F17, b17, PySem.W.mg_of X G a17, F18, b18, PySem.W.mg_of X G a18, F19, b19, PySem.W.mg_of X G a19, F20, b20, PySem.W.mg_of X G a20, F21, b21, PySem.W.mg_of X G a21, F22, b22, PySem.W.mg_of X G a22, F23, b23, PySem.W.mg_of X G a23, F24, b24, PySem.W.mg_of X G a24, F25, b25, PySem.W.mg_of X G a25, F26, b26, PySem.W.mg_of X G a26, F27, b27, PySem.W.mg_of X G a27, PySem.W.mg_none_of X G z_ValueError, PySem.W.mg_none_of X G z_all, PySem.W.mg_none_of X G z_bool, PySem.W.mg_none_of X G z_int, PySem.W.mg_none_of X G z_isinstance, PySem.W.mg_none_of X G z_iter, PySem.W.mg_none_of X G z_len, PySem.W.mg_none_of X G z_list, PySem.W.mg_none_of X G z_range, ⟨tk_MAX_OPERATIONS, PySem.W.mg_of X G zc_MAX_OPERATIONS⟩, ⟨tk_MAX_ARITY, PySem.W.mg_of X G zc_MAX_ARITY⟩, ⟨tk_MAX_NAME, PySem.W.mg_of X G zc_MAX_NAME⟩, ⟨tk_LETTERS, PySem.W.mg_of X G zc_LETTERS⟩, err_mk X G xa_HallError xk_HallError xe_HallError xb_HallError xt_HallError xs_HallError xhg_HallError xhk_HallError xhd_HallError xha_HallError xhn_HallError xht_HallError xhm_HallError, erri_mk X G xa_UnknownName xk_UnknownName ⟨_, _, _, _, _, _, _, _, _, _, _, _, _, _, _, xo_UnknownName, xr_UnknownName⟩ xsa_UnknownName xb_UnknownName xt_UnknownName xs_UnknownName xhg_UnknownName xhk_UnknownName xhd_UnknownName xha_UnknownName xhn_UnknownName xht_UnknownName xhm_UnknownName a7 t7, err_mk X G xa_InvalidName xk_InvalidName xe_InvalidName xb_InvalidName xt_InvalidName xs_InvalidName xhg_InvalidName xhk_InvalidName xhd_InvalidName xha_InvalidName xhn_InvalidName xht_InvalidName xhm_InvalidName, err_mk X G xa_InvalidArity xk_InvalidArity xe_InvalidArity xb_InvalidArity xt_InvalidArity xs_InvalidArity xhg_InvalidArity xhk_InvalidArity xhd_InvalidArity xha_InvalidArity xhn_InvalidArity xht_InvalidArity xhm_InvalidArity, err_mk X G xa_Duplicate xk_Duplicate xe_Duplicate xb_Duplicate xt_Duplicate xs_Duplicate xhg_Duplicate xhk_Duplicate xhd_Duplicate xha_Duplicate xhn_Duplicate xht_Duplicate xhm_Duplicate, err_mk X G xa_TooLarge xk_TooLarge xe_TooLarge xb_TooLarge xt_TooLarge xs_TooLarge xhg_TooLarge xhk_TooLarge xhd_TooLarge xha_TooLarge xhn_TooLarge xht_TooLarge xhm_TooLarge, ⟨xpg_Signature, xhd_Signature, xpo_Signature, xsa_Signature⟩, ⟨xmk_Signature, a3, i3, xkc_Signature⟩, PySem.W.mg_of X G xa_Signature, xN_Signature__names, xN_Signature__arities, xN_Signature__ranks, xN_Signature__flags, ⟨a0, i0, k0⟩, ⟨a0, i0⟩, ⟨a1, i1, k1⟩, ⟨a1, i1⟩, ⟨a4, i4, k4⟩, ⟨a4, i4⟩, ⟨a6, i6, k6⟩, ⟨a8, i8, k8⟩, ⟨a9, i9, k9⟩, ⟨a10, i10, k10⟩, ⟨a11, i11, k11⟩, ⟨a12, i12, k12⟩, ⟨a14, i14, k14⟩, ⟨a15, i15, k15⟩, ff_nf_name_UnknownName, ff_kit_InvalidName_HallError, ff_kit_InvalidName_InvalidArity, ff_kit_InvalidArity_ValueError, ff_kit_InvalidArity_Duplicate, ff_kit_Duplicate_TooLarge, ff_sub_R_N, ff_sub_D_N, ff_sub_D_R, ff_sub_L_N, ff_sub_L_R, ff_sub_L_D⟩
  refine ⟨PySem.W.fnOf "law" "law" (defArgs s_law) (defBody s_law) (defScope s_law) .none kV27 dc27 pm27 an27 cd27 ct27, fun s v => .of_eq rfl, fun base _ _ => ?_⟩
  exact ok_law (P := l.prog) (w := w) (base := base) T
theorem walk {l : PySem.W.OpenLaw} {q : Program} {loose : List Str} {XP : (Str → Option Value) → Heap → Prop} {YP : World → Heap → Prop} {d : DefRec} {K : Params → PySem.W.Frag} (hn : l.most = some 63) (hdf : d.params.defaults = [])
    (hY : ∀ (w : World) (h : Heap), YP w h → (K w.params).In h)
    (F : ∀ (w : World) (mg : Str → Option Value) (fa : Addr) (h : Heap), (K w.params).In h → h.Ns mainGlobals mg → mg d.name = some (.ref fa) →
      ∃ fd : FuncData, (∀ (s : Shared) (u : Value), BindsTo s fd ⟨[u], []⟩ [("script", u)]) ∧ ∀ base : Heap, (K w.params).In base → base.Ns mainGlobals mg → FnOk l.prog w (K w.params) mg base CX0 40 fa fd ["script"] (sp_law (K w.params))) :
    PySem.W.WalkO q loose XP YP l.row.toRowW d [] (fun f vs => PySem.call f vs) :=
  L2.walk_of (n := 63) (k := 40) (x := "script") (CX := fun _ => CX0) (sp := fun w => sp_law (K w.params)) hn (by decide) hdf ⟨rfl, by decide, by decide⟩ hY F (fun _ _ a ns hl _ hS => ⟨a, ns, rfl, hS, hl, fun _ => rfl⟩) fun _ _ _ _ _ z => z
end Lw
open PySem PySem.W PyProof.Rows
set_option maxRecDepth 100000 in
set_option maxHeartbeats 0 in
theorem PySem.Challenge.cw_joinedends_k08_declare_holds : PySem.Challenge.rw_joinedends_k08_declare.Holds := by
  w_on; o_law; k_head; (case hw => w_witness2)
  k_fill
  refine Lw.walk (l := PySem.Challenge.rw_joinedends_k08_declare) rfl rfl (fun w h Y => PySem.W.kIn_of Y) ?F
  case F =>
    intro w mg fa h KX G hmg
    refine' Lw.all_mk KX G hmg ?a0 ?t0 ?l0 ?e0 ?k0 ?a1 ?t1 ?l1 ?e1 ?k1 ?a2 ?l2 ?e2 ?k2 ?a3 ?t3 ?l3 ?e3 ?k3 ?a4 ?t4 ?l4 ?e4 ?k4 ?a5 ?l5 ?e5 ?k5 ?a6 ?t6 ?l6 ?e6 ?k6 ?kq6_commutative ?a7 ?t7 ?l7 ?e7 ?k7 ?a8 ?t8 ?l8 ?e8 ?k8 ?a9 ?t9 ?l9 ?e9 ?k9 ?a10 ?t10 ?l10 ?e10 ?k10 ?a11 ?t11 ?l11 ?e11 ?k11 ?a12 ?t12 ?l12 ?e12 ?k12 ?a13 ?l13 ?e13 ?k13 ?a14 ?t14 ?l14 ?e14 ?k14 ?a15 ?t15 ?l15 ?e15 ?k15 ?a16 ?l16 ?e16 ?k16 ?a17 ?l17 ?e17 ?k17 ?a18 ?l18 ?e18 ?k18 ?a19 ?l19 ?e19 ?k19 ?a20 ?l20 ?e20 ?k20 ?a21 ?l21 ?e21 ?k21 ?a22 ?l22 ?e22 ?k22 ?a23 ?l23 ?e23 ?k23 ?a24 ?l24 ?e24 ?k24 ?a25 ?l25 ?e25 ?k25 ?a26 ?l26 ?e26 ?k26 ?a27 ?l27 ?e27 ?k27 ?z_ValueError ?z_all ?z_bool ?z_int ?z_isinstance ?z_iter ?z_len ?z_list ?z_range ?zc_MAX_OPERATIONS ?zc_MAX_ARITY ?zc_MAX_NAME ?zc_LETTERS ?xa_HallError ?xk_HallError ?xe_HallError ?xb_HallError ?xt_HallError ?xs_HallError ?xhg_HallError ?xhk_HallError ?xhd_HallError ?xha_HallError ?xhn_HallError ?xht_HallError ?xhm_HallError ?xo_UnknownName ?xr_UnknownName ?xsa_UnknownName ?xa_UnknownName ?xk_UnknownName ?xb_UnknownName ?xt_UnknownName ?xs_UnknownName ?xhg_UnknownName ?xhk_UnknownName ?xhd_UnknownName ?xha_UnknownName ?xhn_UnknownName ?xht_UnknownName ?xhm_UnknownName ?xa_InvalidName ?xk_InvalidName ?xe_InvalidName ?xb_InvalidName ?xt_InvalidName ?xs_InvalidName ?xhg_InvalidName ?xhk_InvalidName ?xhd_InvalidName ?xha_InvalidName ?xhn_InvalidName ?xht_InvalidName ?xhm_InvalidName ?xa_InvalidArity ?xk_InvalidArity ?xe_InvalidArity ?xb_InvalidArity ?xt_InvalidArity ?xs_InvalidArity ?xhg_InvalidArity ?xhk_InvalidArity ?xhd_InvalidArity ?xha_InvalidArity ?xhn_InvalidArity ?xht_InvalidArity ?xhm_InvalidArity ?xa_Duplicate ?xk_Duplicate ?xe_Duplicate ?xb_Duplicate ?xt_Duplicate ?xs_Duplicate ?xhg_Duplicate ?xhk_Duplicate ?xhd_Duplicate ?xha_Duplicate ?xhn_Duplicate ?xht_Duplicate ?xhm_Duplicate ?xa_TooLarge ?xk_TooLarge ?xe_TooLarge ?xb_TooLarge ?xt_TooLarge ?xs_TooLarge ?xhg_TooLarge ?xhk_TooLarge ?xhd_TooLarge ?xha_TooLarge ?xhn_TooLarge ?xht_TooLarge ?xhm_TooLarge ?xa_Signature ?xpg_Signature ?xhd_Signature ?xpo_Signature ?xsa_Signature ?xmk_Signature ?xkc_Signature ?xN_Signature__names ?xN_Signature__arities ?xN_Signature__ranks ?xN_Signature__flags ?i0 ?i1 ?i3 ?i4 ?i6 ?i8 ?i9 ?i10 ?i11 ?i12 ?i14 ?i15 ?ff_nf_name_UnknownName ?ff_kit_InvalidName_HallError ?ff_kit_InvalidName_InvalidArity ?ff_kit_InvalidArity_ValueError ?ff_kit_InvalidArity_Duplicate ?ff_kit_Duplicate_TooLarge ?ff_sub_R_N ?ff_sub_D_N ?ff_sub_D_R ?ff_sub_L_N ?ff_sub_L_R ?ff_sub_L_D
    (case xa_HallError => k_is)
    (case xa_UnknownName => k_is)
    (case xa_InvalidName => k_is)
    (case xa_InvalidArity => k_is)
    (case xa_Duplicate => k_is)
    (case xa_TooLarge => k_is)
    (case xa_Signature => k_is)
    (case a0 => k_is)
    (case t0 => k_is)
    (case l0 => k_is)
    (case e0 => k_is)
    (case k0 => k_is)
    (case a1 => k_is)
    (case t1 => k_is)
    (case l1 => k_is)
    (case e1 => k_is)
    (case k1 => k_is)
    (case a2 => k_is)
    (case l2 => k_is)
    (case e2 => k_is)
    (case k2 => k_is)
    (case a3 => k_is)
    (case t3 => k_is)
    (case l3 => k_is)
    (case e3 => k_is)
    (case k3 => k_is)
    (case a4 => k_is)
    (case t4 => k_is)
    (case l4 => k_is)
    (case e4 => k_is)
    (case k4 => k_is)
    (case a5 => k_is)
    (case l5 => k_is)
    (case e5 => k_is)
    (case k5 => k_is)
    (case a6 => k_is)
    (case t6 => k_is)
    (case l6 => k_is)
    (case e6 => k_is)
    (case k6 => k_is)
    (case kq6_commutative => k_is)
    (case a7 => k_is)
    (case t7 => k_is)
    (case l7 => k_is)
    (case e7 => k_is)
    (case k7 => k_is)
    (case a8 => k_is)
    (case t8 => k_is)
    (case l8 => k_is)
    (case e8 => k_is)
    (case k8 => k_is)
    (case a9 => k_is)
    (case t9 => k_is)
    (case l9 => k_is)
    (case e9 => k_is)
    (case k9 => k_is)
    (case a10 => k_is)
    (case t10 => k_is)
    (case l10 => k_is)
    (case e10 => k_is)
    (case k10 => k_is)
    (case a11 => k_is)
    (case t11 => k_is)
    (case l11 => k_is)
    (case e11 => k_is)
    (case k11 => k_is)
    (case a12 => k_is)
    (case t12 => k_is)
    (case l12 => k_is)
    (case e12 => k_is)
    (case k12 => k_is)
    (case a13 => k_is)
    (case l13 => k_is)
    (case e13 => k_is)
    (case k13 => k_is)
    (case a14 => k_is)
    (case t14 => k_is)
    (case l14 => k_is)
    (case e14 => k_is)
    (case k14 => k_is)
    (case a15 => k_is)
    (case t15 => k_is)
    (case l15 => k_is)
    (case e15 => k_is)
    (case k15 => k_is)
    (case a16 => k_is)
    (case l16 => k_is)
    (case e16 => k_is)
    (case k16 => k_is)
    (case a17 => k_is)
    (case l17 => k_is)
    (case e17 => k_is)
    (case k17 => k_is)
    (case a18 => k_is)
    (case l18 => k_is)
    (case e18 => k_is)
    (case k18 => k_is)
    (case a19 => k_is)
    (case l19 => k_is)
    (case e19 => k_is)
    (case k19 => k_is)
    (case a20 => k_is)
    (case l20 => k_is)
    (case e20 => k_is)
    (case k20 => k_is)
    (case a21 => k_is)
    (case l21 => k_is)
    (case e21 => k_is)
    (case k21 => k_is)
    (case a22 => k_is)
    (case l22 => k_is)
    (case e22 => k_is)
    (case k22 => k_is)
    (case a23 => k_is)
    (case l23 => k_is)
    (case e23 => k_is)
    (case k23 => k_is)
    (case a24 => k_is)
    (case l24 => k_is)
    (case e24 => k_is)
    (case k24 => k_is)
    (case a25 => k_is)
    (case l25 => k_is)
    (case e25 => k_is)
    (case k25 => k_is)
    (case a26 => k_is)
    (case l26 => k_is)
    (case e26 => k_is)
    (case k26 => k_is)
    (case a27 => k_is)
    (case l27 => k_is)
    (case e27 => k_is)
    (case k27 => k_is)
    (case z_ValueError => k_is)
    (case z_all => k_is)
    (case z_bool => k_is)
    (case z_int => k_is)
    (case z_isinstance => k_is)
    (case z_iter => k_is)
    (case z_len => k_is)
    (case z_list => k_is)
    (case z_range => k_is)
    (case zc_MAX_OPERATIONS => k_is)
    (case zc_MAX_ARITY => k_is)
    (case zc_MAX_NAME => k_is)
    (case zc_LETTERS => k_is)
    (case xk_HallError => k_is)
    (case xe_HallError => k_exc)
    (case xb_HallError => k_is)
    (case xt_HallError => k_is)
    (case xs_HallError => first | rfl | k_is)
    (case xhg_HallError => k_is)
    (case xhk_HallError => k_is)
    (case xhd_HallError => k_is)
    (case xha_HallError => k_is)
    (case xhn_HallError => k_is)
    (case xht_HallError => k_is)
    (case xhm_HallError => k_is)
    (case xo_UnknownName => k_is)
    (case xr_UnknownName => first | rfl | k_is)
    (case xsa_UnknownName => k_is)
    (case xk_UnknownName => k_is)
    (case xb_UnknownName => k_is)
    (case xt_UnknownName => k_is)
    (case xs_UnknownName => first | rfl | k_is)
    (case xhg_UnknownName => k_is)
    (case xhk_UnknownName => k_is)
    (case xhd_UnknownName => k_is)
    (case xha_UnknownName => k_is)
    (case xhn_UnknownName => k_is)
    (case xht_UnknownName => k_is)
    (case xhm_UnknownName => k_is)
    (case xk_InvalidName => k_is)
    (case xe_InvalidName => k_exc)
    (case xb_InvalidName => k_is)
    (case xt_InvalidName => k_is)
    (case xs_InvalidName => first | rfl | k_is)
    (case xhg_InvalidName => k_is)
    (case xhk_InvalidName => k_is)
    (case xhd_InvalidName => k_is)
    (case xha_InvalidName => k_is)
    (case xhn_InvalidName => k_is)
    (case xht_InvalidName => k_is)
    (case xhm_InvalidName => k_is)
    (case xk_InvalidArity => k_is)
    (case xe_InvalidArity => k_exc)
    (case xb_InvalidArity => k_is)
    (case xt_InvalidArity => k_is)
    (case xs_InvalidArity => first | rfl | k_is)
    (case xhg_InvalidArity => k_is)
    (case xhk_InvalidArity => k_is)
    (case xhd_InvalidArity => k_is)
    (case xha_InvalidArity => k_is)
    (case xhn_InvalidArity => k_is)
    (case xht_InvalidArity => k_is)
    (case xhm_InvalidArity => k_is)
    (case xk_Duplicate => k_is)
    (case xe_Duplicate => k_exc)
    (case xb_Duplicate => k_is)
    (case xt_Duplicate => k_is)
    (case xs_Duplicate => first | rfl | k_is)
    (case xhg_Duplicate => k_is)
    (case xhk_Duplicate => k_is)
    (case xhd_Duplicate => k_is)
    (case xha_Duplicate => k_is)
    (case xhn_Duplicate => k_is)
    (case xht_Duplicate => k_is)
    (case xhm_Duplicate => k_is)
    (case xk_TooLarge => k_is)
    (case xe_TooLarge => k_exc)
    (case xb_TooLarge => k_is)
    (case xt_TooLarge => k_is)
    (case xs_TooLarge => first | rfl | k_is)
    (case xhg_TooLarge => k_is)
    (case xhk_TooLarge => k_is)
    (case xhd_TooLarge => k_is)
    (case xha_TooLarge => k_is)
    (case xhn_TooLarge => k_is)
    (case xht_TooLarge => k_is)
    (case xhm_TooLarge => k_is)
    (case xpg_Signature => k_is)
    (case xhd_Signature => k_is)
    (case xpo_Signature => k_is)
    (case xsa_Signature => k_is)
    (case xmk_Signature => k_is)
    (case xkc_Signature => k_is)
    (case xN_Signature__names => k_is)
    (case xN_Signature__arities => k_is)
    (case xN_Signature__ranks => k_is)
    (case xN_Signature__flags => k_is)
    (case i0 => k_is)
    (case i1 => k_is)
    (case i3 => k_is)
    (case i4 => k_is)
    (case i6 => k_is)
    (case i8 => k_is)
    (case i9 => k_is)
    (case i10 => k_is)
    (case i11 => k_is)
    (case i12 => k_is)
    (case i14 => k_is)
    (case i15 => k_is)
    (case ff_nf_name_UnknownName => first | rfl | k_is)
    (case ff_kit_InvalidName_HallError => first | rfl | k_is)
    (case ff_kit_InvalidName_InvalidArity => first | rfl | k_is)
    (case ff_kit_InvalidArity_ValueError => first | rfl | k_is)
    (case ff_kit_InvalidArity_Duplicate => first | rfl | k_is)
    (case ff_kit_Duplicate_TooLarge => first | rfl | k_is)
    (case ff_sub_R_N => first | rfl | k_is)
    (case ff_sub_D_N => first | rfl | k_is)
    (case ff_sub_D_R => first | rfl | k_is)
    (case ff_sub_L_N => first | rfl | k_is)
    (case ff_sub_L_R => first | rfl | k_is)
    (case ff_sub_L_D => first | rfl | k_is)
#print axioms PySem.Challenge.cw_joinedends_k08_declare_holds
