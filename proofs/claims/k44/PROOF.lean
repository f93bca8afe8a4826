import PyProof.Rows.All
import Wide.All
import OpenK.AllK
import Wide.FinOn
import HandS.ForMost
import HandS.IsInst
import HandS.FStr
import HandS.Conv
import HandS.List
import HandS.ExcInit
import HandS.ExcField
import KE.KExcIs
import HandS.Walk
import HandS.SortInts
import HandS.Style
import HandS.ForExc
import HandS.ExcIs
import HandS.TryOnly
import HandS.Iter
import HandS.TupAny
import PyProof.ReprRoads
import HandS.Dict
import HandS.Words
import HandS.Ends
import PyProof.ReprLen
import PyProof.StrLawsRepr
import KE.DataCmp
import KE.KDictItemsList
import KE.KDictZip
import HandS.Zip0
import HandS.Zip
import HandS.ListItems
import HandS.ExcCtx
import HandS.HotCalls
import HandS.ExcInitHot
import HandS.More
import HandS.ExcOwn
import HandS.Defaults
import PyProof.Logic
import HandS.IterVal
import HandS.OwnIter
import HandS.DictComp
import KE.KDictCopyH
import PyProof.DictCompW
import PySem.Challenge.RW_joinedends_k44_rule_index
set_option Elab.async false
set_option maxRecDepth 100000
/-! ### terms, and what a heap says of them -/
namespace J
open PySem L2

/-- a term of the document -/
inductive Tm where
  | var (n : Int)
  | app (f : Str) (ts : List Tm)

mutual
def Tm.sz : Tm → Nat
  | .var _ => 1
  | .app _ ts => 1 + Tm.szs ts
def Tm.szs : List Tm → Nat
  | [] => 0
  | t :: ts => Tm.sz t + Tm.szs ts
end
mutual
def Tm.dep : Tm → Nat
  | .var _ => 1
  | .app _ ts => 1 + Tm.deps ts
def Tm.deps : List Tm → Nat
  | [] => 0
  | t :: ts => max (Tm.dep t) (Tm.deps ts)
end
mutual
/-- t stands in H as the value v -/
def TmIn (H : Hp) : Tm → V → Prop
  | .var n, v => v = .int n
  | .app f ts, v => ∃ a vs, v = .ref a ∧ H a = some (.tup (.str f :: vs)) ∧ TmsIn H ts vs
def TmsIn (H : Hp) : List Tm → List V → Prop
  | [], vs => vs = []
  | t :: ts, vs => ∃ v r, vs = v :: r ∧ TmIn H t v ∧ TmsIn H ts r
end
/-- the arity of the k-th drawn operation -/
def ar (k : Nat) : Nat := if k < 2 then 0 else if k = 5 then 2 else k - 1
theorem ar_zero {k : Nat} (h : k < 2) : ar k = 0 := if_pos h
theorem ar_two {n : Nat} (h : n < 3) : ar (n + 2) = n + 1 := by unfold ar; rw [if_neg (by omega), if_neg (by omega)]; rfl
theorem ar_le {k : Nat} (h : k < 6) : ar k ≤ 3 := by unfold ar; split; · omega
                                                     · split <;> omega
theorem ar_pos {k : Nat} (h : 2 ≤ k) : 1 ≤ ar k := by unfold ar; rw [if_neg (by omega)]; split <;> omega
mutual
/-- variables below B, applications of the named operations -/
def Tm.wf (fs : List Str) (B : Int) : Tm → Prop
  | .var n => 0 ≤ n ∧ n < B
  | .app f ts => (∃ k, fs[k]? = some f ∧ ts.length = ar k) ∧ Tm.wfs fs B ts
def Tm.wfs (fs : List Str) (B : Int) : List Tm → Prop
  | [] => True
  | t :: ts => Tm.wf fs B t ∧ Tm.wfs fs B ts
end

/-- induction over terms -/
theorem Tm.ind {P : Tm → Prop} (hv : ∀ n, P (.var n)) (ha : ∀ f ts, (∀ t ∈ ts, P t) → P (.app f ts)) : ∀ t, P t
  | .var n => hv n
  | .app f ts => ha f ts (go ts)
where go : ∀ ts : List Tm, ∀ t ∈ ts, P t
  | [], _, h => nomatch h
  | u :: us, t, h => by
    rcases List.mem_cons.mp h with e | h
    · rw [e]; exact Tm.ind hv ha u
    · exact go us t h

theorem Tm.sz_pos : ∀ t : Tm, 1 ≤ t.sz
  | .var _ => Nat.le_refl _
  | .app _ _ => by show 1 ≤ 1 + _; omega
theorem Tm.dep_pos : ∀ t : Tm, 1 ≤ t.dep
  | .var _ => Nat.le_refl _
  | .app _ _ => by show 1 ≤ 1 + _; omega
theorem Tm.dep_of_mem : ∀ {ts : List Tm} {t : Tm}, t ∈ ts → t.dep ≤ Tm.deps ts
  | u :: us, t, h => by
    show t.dep ≤ max u.dep (Tm.deps us)
    rcases List.mem_cons.mp h with e | h
    · rw [e]; omega
    · have := Tm.dep_of_mem h; omega
theorem Tm.deps_le : ∀ {ts : List Tm} {n : Nat}, (∀ t ∈ ts, t.dep ≤ n) → Tm.deps ts ≤ n
  | [], _, _ => Nat.zero_le _
  | u :: us, n, h => by
    have h1 := h u (List.mem_cons_self ..)
    have h2 := Tm.deps_le (ts := us) fun t m => h t (List.mem_cons_of_mem _ m)
    show max u.dep (Tm.deps us) ≤ n
    omega
theorem Tm.szs_le : ∀ {ts : List Tm} {M : Nat}, (∀ t ∈ ts, 2 * t.sz + 1 ≤ M) → 2 * Tm.szs ts + ts.length ≤ ts.length * M
  | [], _, _ => by show 2 * 0 + 0 ≤ _; omega
  | u :: us, M, h => by
    have h1 := h u (List.mem_cons_self ..)
    have h2 := Tm.szs_le (ts := us) (M := M) fun t m => h t (List.mem_cons_of_mem _ m)
    show 2 * (u.sz + Tm.szs us) + (us.length + 1) ≤ (us.length + 1) * M
    rw [Nat.add_mul, Nat.one_mul]
    omega
theorem Tm.szs_three {ts : List Tm} {h : Nat} (hl : ts.length ≤ 3) (hw : ∀ t ∈ ts, 2 * t.sz + 1 ≤ 3 ^ h) : 2 * (1 + Tm.szs ts) + 1 ≤ 3 ^ (h + 1) := by
  have h1 := Tm.szs_le hw
  have h3 : 1 ≤ 3 ^ h := Nat.pow_pos (by decide)
  have h2 : 3 ^ (h + 1) = 3 ^ h * 3 := rfl
  generalize 3 ^ h = M at *
  rw [h2]
  match e : ts.length, hl with
  | 0, _ => rw [e] at h1; omega
  | 1, _ => rw [e] at h1; omega
  | 2, _ => rw [e] at h1; omega
  | 3, _ => rw [e] at h1; omega
theorem Tm.wf_of_mem {fs : List Str} {B : Int} : ∀ {ts : List Tm} {t : Tm}, Tm.wfs fs B ts → t ∈ ts → t.wf fs B
  | u :: us, t, w, h => by
    have w : u.wf fs B ∧ Tm.wfs fs B us := w
    rcases List.mem_cons.mp h with e | h
    · rw [e]; exact w.1
    · exact Tm.wf_of_mem w.2 h
theorem Tm.wfs_of {fs : List Str} {B : Int} : ∀ {ts : List Tm}, (∀ t ∈ ts, t.wf fs B) → Tm.wfs fs B ts
  | [], _ => True.intro
  | u :: us, h => ⟨h u (List.mem_cons_self ..), Tm.wfs_of fun t m => h t (List.mem_cons_of_mem _ m)⟩

/-- a tuple that is known stays known -/
def Tu (H H' : Hp) : Prop := ∀ a xs, H a = some (.tup xs) → H' a = some (.tup xs)
theorem Tu.refl (H : Hp) : Tu H H := fun _ _ h => h
theorem Tu.trans {H H1 H2 : Hp} (a : Tu H H1) (b : Tu H1 H2) : Tu H H2 := fun x y h => b x y (a x y h)
theorem tu_same {H H' : Hp} (s : Same H H') : Tu H H' := fun a _ h => s a _ h
theorem tu_upd {H : Hp} {p : Addr} {o : HO} (h : ∀ xs, H p ≠ some (.tup xs)) : Tu H (upd H p o) := fun a xs e => by
  have ne : a ≠ p := fun z => by subst z; exact h _ e
  rw [upd_ne ne]; exact e
mutual
theorem TmIn.mono {H H' : Hp} (s : Tu H H') : ∀ (t : Tm) (v : V), TmIn H t v → TmIn H' t v
  | .var _, _, h => h
  | .app _ ts, _, ⟨a, vs, e, h, r⟩ => ⟨a, vs, e, s _ _ h, TmsIn.mono s ts vs r⟩
theorem TmsIn.mono {H H' : Hp} (s : Tu H H') : ∀ (ts : List Tm) (vs : List V), TmsIn H ts vs → TmsIn H' ts vs
  | [], _, h => h
  | t :: ts, _, ⟨v, r, e, h, q⟩ => ⟨v, r, e, TmIn.mono s t v h, TmsIn.mono s ts r q⟩
end
theorem TmIn.tu {H H' : Hp} {t : Tm} {v : V} (h : TmIn H t v) (s : Tu H H') : TmIn H' t v := TmIn.mono s t v h
theorem TmsIn.tu {H H' : Hp} {t : List Tm} {v : List V} (h : TmsIn H t v) (s : Tu H H') : TmsIn H' t v := TmsIn.mono s t v h
theorem TmsIn.length {H : Hp} : ∀ {ts : List Tm} {vs : List V}, TmsIn H ts vs → vs.length = ts.length
  | [], _, h => by cases (show _ = [] from h); rfl
  | t :: ts, _, ⟨v, r, e, _, q⟩ => by rw [e, List.length_cons, List.length_cons, TmsIn.length q]
theorem TmsIn.get {H : Hp} : ∀ {ts : List Tm} {vs : List V} {i : Nat} {v : V}, TmsIn H ts vs → vs[i]? = some v → ∃ t, ts[i]? = some t ∧ TmIn H t v
  | [], _, i, v, h, e => by cases (show _ = [] from h); simp at e
  | t :: ts, _, 0, v, ⟨w, r, rfl, h, q⟩, e => by
    have e : w = v := by simpa using e
    exact ⟨t, rfl, e ▸ h⟩
  | t :: ts, _, i + 1, v, ⟨w, r, rfl, h, q⟩, e => by
    obtain ⟨u, h1, h2⟩ := TmsIn.get (i := i) (v := v) q (by simpa using e)
    exact ⟨u, by simpa using h1, h2⟩
theorem TmsIn.get' {H : Hp} {ts : List Tm} {vs : List V} {i : Nat} {t : Tm} (h : TmsIn H ts vs) (e : ts[i]? = some t) : ∃ v, vs[i]? = some v ∧ TmIn H t v := by
  have hi : i < ts.length := (List.getElem?_eq_some_iff.mp e).1
  rw [← h.length] at hi
  obtain ⟨u, h1, h2⟩ := h.get (List.getElem?_eq_getElem hi)
  rw [e] at h1
  cases h1
  exact ⟨_, List.getElem?_eq_getElem hi, h2⟩
theorem TmsIn.append {H : Hp} : ∀ {ts us : List Tm} {vs ws : List V}, TmsIn H ts vs → TmsIn H us ws → TmsIn H (ts ++ us) (vs ++ ws)
  | [], us, vs, ws, h, q => by cases (show vs = [] from h); exact q
  | t :: ts, us, _, ws, ⟨v, r, rfl, h, k⟩, q => ⟨v, r ++ ws, rfl, h, TmsIn.append k q⟩
theorem TmsIn.one {H : Hp} {t : Tm} {v : V} (h : TmIn H t v) : TmsIn H [t] [v] := ⟨v, [], rfl, h, rfl⟩

/-! ### heaps -/
theorem same_new {H : Hp} {p : Addr} (h : H p = none) (o : HO) : Same H (upd H p o) := fun b u q => by rw [upd_ne (ne_of_none q h)]; exact q
/-- what H does not know may change -/
theorem same_mut {H H' : Hp} {p : Addr} (e : Same H H') (h : H p = none) (o : HO) : Same H (upd H' p o) := fun a u ha => by
  rw [upd_ne (ne_of_none ha h)]; exact e a u ha
theorem al_same {H H1 : Hp} {p : Addr} {o : HO} (n : H p = none) (e : upd H p o = H1) : Same H H1 := e ▸ same_new n o
theorem al_at {H H1 : Hp} {p : Addr} {o : HO} (e : upd H p o = H1) : H1 p = some o := by rw [← e]; exact upd_same
theorem al_mut {H0 H H1 : Hp} {p : Addr} {o : HO} (s : Same H0 H) (n : H0 p = none) (e : upd H p o = H1) : Same H0 H1 := e ▸ same_mut s n o
theorem al_but {H H1 : Hp} {p : Addr} {o : HO} (e : upd H p o = H1) : ∀ b u, H b = some u → b ≠ p → H1 b = some u := fun b u h n => by rw [← e, upd_ne n]; exact h
/-- all but the object at s stands as it stood -/
def But (s : Addr) (H H' : Hp) : Prop := ∀ b o, H b = some o → b ≠ s → H' b = some o
theorem But.refl (s : Addr) (H : Hp) : But s H H := fun _ _ h _ => h
theorem But.trans {s : Addr} {H H1 H2 : Hp} (a : But s H H1) (b : But s H1 H2) : But s H H2 := fun c o h n => b c o (a c o h n) n
theorem but_same {s : Addr} {H H' : Hp} (h : Same H H') : But s H H' := fun b o q _ => h b o q
theorem but_upd {s : Addr} {H : Hp} (o : HO) : But s H (upd H s o) := fun b u q n => by rw [upd_ne n]; exact q
theorem But.mut {s : Addr} {H H' : Hp} {p : Addr} (e : But s H H') (h : H p = none) (o : HO) : But s H (upd H' p o) := fun a u ha n => by
  rw [upd_ne (ne_of_none ha h)]; exact e a u ha n

/-- the list at s from which a script is drawn (what is left of a number, the numbers at l, the place, the seed) -/
def St (H : Hp) (s l : Addr) : Prop := ∃ (v at0 sd : Int) (ns : List Int), H s = some (.lst [.int v, .ref l, .int at0, .int sd]) ∧ H l = some (.lst (ns.map V.int)) ∧
  0 ≤ at0 ∧ at0 ≤ (ns.length : Int) ∧ 0 ≤ v ∧ 0 ≤ sd ∧ sd < 2147483648 ∧ ns.length ≤ 63
theorem St.ne_list {H : Hp} {s l : Addr} {ns : List Int} {v at0 sd : Int} {l' : Addr} (h : H s = some (.lst [.int v, .ref l', .int at0, .int sd])) (q : H l = some (.lst (ns.map V.int))) : l ≠ s := by
  intro e; subst e
  rw [h] at q
  injection q with q; injection q with q
  match ns, q with
  | [], q => cases q
  | [_], q => injection q with _ q; cases q
  | _ :: _ :: _, q => injection q with _ q; injection q with q _; cases q
theorem St.ne {H : Hp} {s l : Addr} (h : St H s l) : l ≠ s := by
  obtain ⟨v, a, d, ns, h1, h2, r⟩ := h
  exact St.ne_list h1 h2
theorem St.same {H H' : Hp} {s l : Addr} (h : St H s l) (b : Same H H') : St H' s l := by
  obtain ⟨v, a, d, ns, h1, h2, r⟩ := h
  exact ⟨v, a, d, ns, b _ _ h1, b _ _ h2, r⟩
theorem St.lst {H : Hp} {s l : Addr} (h : St H s l) : ∃ v a d : Int, H s = some (.lst [.int v, .ref l, .int a, .int d]) := by
  obtain ⟨v, a, d, ns, h1, _⟩ := h
  exact ⟨_, _, _, h1⟩
theorem St.nums {H : Hp} {s l : Addr} (h : St H s l) : ∃ ns : List Int, H l = some (.lst (ns.map V.int)) := by
  obtain ⟨v, a, d, ns, h1, h2, _⟩ := h
  exact ⟨_, h2⟩
theorem St.upd {H : Hp} {s l D : Addr} {o : HO} (h : St H s l) (n1 : s ≠ D) (n2 : l ≠ D) : St (upd H D o) s l := by
  obtain ⟨v, a, d, ns, h1, h2, r⟩ := h
  exact ⟨v, a, d, ns, by rw [upd_ne n1]; exact h1, by rw [upd_ne n2]; exact h2, r⟩
/-- an address that was free -/
theorem St.free {H : Hp} {s l D : Addr} (h : St H s l) (n : H D = none) : s ≠ D ∧ l ≠ D := by
  obtain ⟨v, a, d, ns, h1, h2, r⟩ := h
  exact ⟨ne_of_none h1 n, ne_of_none h2 n⟩
theorem St.but {H H' : Hp} {s l p : Addr} (h : St H s l) (b : But p H H') (n1 : s ≠ p) (n2 : l ≠ p) : St H' s l := by
  obtain ⟨v, a, d, ns, h1, h2, r⟩ := h
  exact ⟨v, a, d, ns, b _ _ h1 n1, b _ _ h2 n2, r⟩
theorem St.tu {H H' : Hp} {s l : Addr} (h : St H s l) (b : But s H H') : Tu H H' := fun a xs e => b a _ e fun z => by
  obtain ⟨_, _, _, q⟩ := h.lst
  rw [z, q] at e; cases e
/-- an object of another kind than the state's -/
theorem St.ne_tup {H : Hp} {s l a : Addr} {xs : List V} (h : St H s l) (e : H a = some (.tup xs)) : a ≠ s := fun z => by
  obtain ⟨_, _, _, q⟩ := h.lst
  rw [z, q] at e; cases e
theorem St.ne_dK {H : Hp} {s l a : Addr} {xs} (h : St H s l) (e : H a = some (.dK xs)) : a ≠ s := fun z => by
  obtain ⟨_, _, _, q⟩ := h.lst
  rw [z, q] at e; cases e

/-! ### names and operations -/
def Low (z : Str) : Prop := ∀ c ∈ z.cps.toList, 97 ≤ c ∧ c ≤ 122
/-- drawn names -/
structure Names (fs : List Str) : Prop where
  low : ∀ f ∈ fs, Low f
  lo : ∀ f ∈ fs, 1 ≤ f.length
  hi : ∀ f ∈ fs, f.length ≤ 7
  nd : fs.Nodup
/-- drawn operations at o -/
def Ops (H : Hp) (o : Addr) (fs : List Str) : Prop := Names fs ∧ (fs.length = 4 ∨ fs.length = 5) ∧ ∃ as : List Addr, H o = some (.lst (as.map V.ref)) ∧ as.length = fs.length ∧
  ∀ (k : Nat) (f : Str) (a : Addr), fs[k]? = some f → as[k]? = some a → H a = some (.tup [.str f, .int (ar k)])
theorem Ops.ne {H : Hp} {o s l : Addr} {fs : List Str} (h : Ops H o fs) (q : St H s l) : o ≠ s := by
  obtain ⟨_, hl, as, h1, h2, _⟩ := h
  obtain ⟨v, a, d, ns, e, _⟩ := q
  intro z; subst z
  rw [h1] at e
  injection e with e; injection e with e
  match as, e with
  | [], e => cases e
  | x :: _, e => injection e with e _; cases e
theorem Ops.but {H H' : Hp} {o s l : Addr} {fs : List Str} (h : Ops H o fs) (q : St H s l) (b : But s H H') : Ops H' o fs := by
  have ne := h.ne q
  obtain ⟨n, hl, as, h1, h2, h3⟩ := h
  exact ⟨n, hl, as, b _ _ h1 ne, h2, fun k f a e e' => b _ _ (h3 k f a e e') (q.ne_tup (h3 k f a e e'))⟩
theorem Ops.same {H H' : Hp} {o : Addr} {fs : List Str} (h : Ops H o fs) (b : Same H H') : Ops H' o fs := by
  obtain ⟨n, hl, as, h1, h2, h3⟩ := h
  exact ⟨n, hl, as, b _ _ h1, h2, fun k f a e e' => b _ _ (h3 k f a e e')⟩
theorem Ops.get {H : Hp} {o : Addr} {fs : List Str} (h : Ops H o fs) {k : Nat} (hk : k < fs.length) : ∃ (xs : List V) (a : Addr) (f : Str), H o = some (.lst xs) ∧ xs.length = fs.length ∧ xs[k]? = some (.ref a) ∧ fs[k]? = some f ∧ H a = some (.tup [.str f, .int (ar k)]) := by
  obtain ⟨n, hl, as, h1, h2, h3⟩ := h
  have hk' : k < as.length := by omega
  refine ⟨_, as[k], fs[k], h1, by rw [List.length_map, h2], ?_, List.getElem?_eq_getElem hk, h3 k _ _ (List.getElem?_eq_getElem hk) (List.getElem?_eq_getElem hk')⟩
  rw [List.getElem?_map, List.getElem?_eq_getElem hk']; rfl

/-! ### rules whose readings name the written part -/
def rLenS (K : PySem.W.Frag) : List V → Hp → VK → Prop := fun xs H Q => ∃ p ys, xs = [.ref p] ∧ (SqL K H p ys ∨ SqT K H p ys) ∧ Q (.int ys.length) H
def rListS (K : PySem.W.Frag) : List V → Hp → VK → Prop := fun xs H Q => ∃ p ys, xs = [.ref p] ∧ (SqL K H p ys ∨ SqT K H p ys) ∧ ∀ l, H l = none → Q (.ref l) (upd H l (.lst ys))
def rTupS (K : PySem.W.Frag) : List V → Hp → VK → Prop := fun xs H Q => ∃ p ys, xs = [.ref p] ∧ ((SqL K H p ys ∧ ∀ l, H l = none → Q (.ref l) (upd H l (.tup ys))) ∨ (SqT K H p ys ∧ Q (.ref p) H))
section
variable {X : Cx}
theorem j_len : CallR X (.builtin "len") (rLenS X.K) := call_len_seq
theorem j_list : CallR X (.type "list") (rListS X.K) := call_list_of
theorem j_tuple : CallR X (.type "tuple") (rTupS X.K) := call_tuple_of
end
/-! ### two ways meet again ahead of the rest -/
theorem seq_join {t u : TS} {D : Ends} {σ : L2.St} {H : Hp} (I : L2.St → Hp → Prop) (h2 : ∀ σ' H', I σ' H' → u D σ' H') (h1 : ∀ N : L2.St → Hp → Prop, (∀ σ' H', I σ' H' → N σ' H') → t { D with nx := N } σ H) : tSeq t u D σ H := h1 (u D) h2
theorem int_of {i j : Int} (h : (V.bl (decide (i = j))) = .bl true) : i = j := by
  injection h with h; exact of_decide_eq_true h
theorem fmod_0 {a m : Int} (h : 1 ≤ m) : 0 ≤ a.fmod m := by
  rw [Int.fmod_eq_emod_of_nonneg _ (by omega)]; exact Int.emod_nonneg _ (by omega)
theorem fmod_lt {a m : Int} (h : 1 ≤ m) : a.fmod m < m := by
  rw [Int.fmod_eq_emod_of_nonneg _ (by omega)]; exact Int.emod_lt_of_pos _ (by omega)
theorem at_int {ns : List Int} {k : Int} (h0 : 0 ≤ k) (h : k < (ns.length : Int)) : ∃ n, atI (ns.map V.int) k = some (.int n) := by
  have hk : k.toNat < ns.length := by omega
  have q : atI (ns.map V.int) ((k.toNat : Nat) : Int) = some (.int ns[k.toNat]) := atI_nat (by rw [List.getElem?_map, List.getElem?_eq_getElem hk]; rfl)
  rw [Int.toNat_of_nonneg h0] at q
  exact ⟨_, q⟩
theorem at_get {xs : List V} {k : Int} {v : V} (h0 : 0 ≤ k) (h : xs[k.toNat]? = some v) : atI xs k = some v := by
  have q : atI xs ((k.toNat : Nat) : Int) = some v := atI_nat h
  rw [Int.toNat_of_nonneg h0] at q
  exact q
/-! ### contracts that nothing meets -/
theorem fn_none {P : Program} {w : World} {K : PySem.W.Frag} {mg : Str → Option Value} {base : Heap} {CX : CXT} {f : Addr} {fd : FuncData} {ps : List Str} {sp : Sp} {k : Nat} (no : ∀ vs H Q E, ¬ sp vs H Q E) : FnOk P w K mg base CX k f fd ps sp :=
  ⟨fun vs H Q E h => absurd h (no vs H Q E), fun _ _ _ _ _ _ vs Q E _ _ _ _ h => absurd h (no vs _ Q E)⟩
end J
/-! ### isinstance, slices of terms -/
namespace J
open PySem L2
section
variable {K : PySem.W.Frag} {H : Hp} {Q : VK}
theorem isi {x : V} {n m : String} {b : Bool} (ty : TyX K H x (.type n)) (h : kitB n m = some b) (q : Q (.bl b) H) : rIsi K [x, .ty m] H Q := ⟨x, .ty m, .type n, .type m, b, rfl, .ty m, ty, kit_ty h, q⟩
theorem isi_int {i : Int} {m : String} {b : Bool} (h : kitB "int" m = some b) (q : Q (.bl b) H) : rIsi K [.int i, .ty m] H Q := isi (.base (.int i)) h q
theorem isi_str {x : Str} {m : String} {b : Bool} (h : kitB "str" m = some b) (q : Q (.bl b) H) : rIsi K [.str x, .ty m] H Q := isi (.base (.str x)) h q
theorem isi_tup {a : Addr} {xs : List V} {m : String} {b : Bool} (e : H a = some (.tup xs)) (h : kitB "tuple" m = some b) (q : Q (.bl b) H) : rIsi K [.ref a, .ty m] H Q := isi (.base (.tup e)) h q
theorem isi_lst {a : Addr} {xs : List V} {m : String} {b : Bool} (e : H a = some (.lst xs)) (h : kitB "list" m = some b) (q : Q (.bl b) H) : rIsi K [.ref a, .ty m] H Q := isi (.base (.lst e)) h q
theorem isi_dK {a : Addr} {xs} {m : String} {b : Bool} (e : H a = some (.dK xs)) (h : kitB "dict" m = some b) (q : Q (.bl b) H) : rIsi K [.ref a, .ty m] H Q := isi (.base (.dK e)) h q
theorem isi_bl {i : Bool} {m : String} {b : Bool} (h : kitB "bool" m = some b) (q : Q (.bl b) H) : rIsi K [.bl i, .ty m] H Q := isi (.base (.bl i)) h q
end
theorem cut1 (x : V) (vs : List V) : cutV (x :: vs) (some 1) none = vs := by
  unfold cutV
  have e1 : HT.sIx (x :: vs).length 0 (some 1) = 1 := by
    show min 1 (vs.length + 1) = 1
    omega
  have e2 : HT.sIx (x :: vs).length (x :: vs).length none = vs.length + 1 := rfl
  rw [e1, e2]
  simp
theorem sl1c (x : V) (vs : List V) : ¬ (HT.sIx (x :: vs).length 0 (some 1) = 0 ∧ HT.sIx (x :: vs).length (x :: vs).length none = (x :: vs).length) := by
  intro ⟨z, _⟩
  have e1 : HT.sIx (x :: vs).length 0 (some 1) = 1 := by
    show min 1 (vs.length + 1) = 1
    omega
  rw [e1] at z; cases z
theorem at_zero {x : V} {xs : List V} : atI (x :: xs) 0 = some x := atI_nat (j := 0) rfl
/-- t[1:] of an application -/
theorem sl1 {K : PySem.W.Frag} {H : Hp} {Q : VK} {a : Addr} {x : V} {vs : List V} (h : H a = some (.tup (x :: vs))) (q : ∀ p, H p = none → Q (.ref p) (upd H p (.tup vs))) : rSlT K (.ref a) (some 1) none H Q := by
  refine ⟨a, _, rfl, SqT.of h, ?_, ?_⟩
  · intro ⟨z, _⟩
    have e1 : HT.sIx (x :: vs).length 0 (some 1) = 1 := by
      show min 1 (vs.length + 1) = 1
      omega
    rw [e1] at z; cases z
  · rw [cut1]; exact q
theorem But.same {s : Addr} {H H' : Hp} (b : But s H H') {H0 : Hp} (k : Same H0 H) (n : H0 s = none) : Same H0 H' := fun a o e => b a o (k a o e) (ne_of_none e n)
theorem But.upd {s : Addr} {H H' : Hp} (b : But s H H') (o : HO) : But s H (upd H' s o) := b.trans (but_upd o)
theorem but_tu {s : Addr} {H H' : Hp} (b : But s H H') (h : ∀ xs, H s ≠ some (.tup xs)) : Tu H H' := fun a xs e => b a _ e fun z => by
  rw [z] at e; exact h _ e
theorem lst_not_tup {H : Hp} {p : Addr} {ys : List V} (h : H p = some (.lst ys)) : ∀ xs, H p ≠ some (.tup xs) := fun xs e => by
  rw [h] at e; cases e
theorem TmIn.dep_arg {f : Str} {ts : List Tm} {t : Tm} {N : Nat} (h : (Tm.app f ts).dep ≤ N + 1) (m : t ∈ ts) : t.dep ≤ N := by
  have h : 1 + Tm.deps ts ≤ N + 1 := h
  have := Tm.dep_of_mem m
  omega
theorem Tm.len_le : ∀ ts : List Tm, ts.length ≤ Tm.szs ts
  | [] => Nat.le_refl _
  | u :: us => by
    have h1 := u.sz_pos
    have h2 := Tm.len_le us
    show us.length + 1 ≤ u.sz + Tm.szs us
    omega
theorem Tm.sz_arg : ∀ {ts : List Tm} {t : Tm}, t ∈ ts → t.sz ≤ Tm.szs ts
  | u :: us, t, h => by
    show t.sz ≤ u.sz + Tm.szs us
    rcases List.mem_cons.mp h with e | h
    · rw [e]; omega
    · have := Tm.sz_arg h; omega
end J
/-! ### tests by their meaning -/
namespace J
open PySem L2
theorem ifD {p : Prop} [Decidable p] {A B : Prop} (h1 : p → A) (h2 : ¬ p → B) : if decide p = true then A else B := ite2 (fun e => h1 (of_decide_eq_true e)) fun e => h2 fun z => e (decide_eq_true z)
theorem ifN {p : Prop} [Decidable p] {A B : Prop} (h1 : ¬ p → A) (h2 : p → B) : if (!decide p) = true then A else B := by
  by_cases h : p
  · rw [decide_eq_true h]; exact h2 h
  · rw [decide_eq_false h]; exact h1 h
theorem ifEq {i j : Int} {A B : Prop} (h1 : i = j → A) (h2 : i ≠ j → B) : if decide (V.int i = V.int j) = true then A else B := ifD (fun e => h1 (by injection e)) fun e => h2 fun z => e (by rw [z])
theorem ifNe {i j : Int} {A B : Prop} (h1 : i ≠ j → A) (h2 : i = j → B) : if (!decide (V.int i = V.int j)) = true then A else B := ifN (fun e => h1 fun z => e (by rw [z])) fun e => h2 (by injection e)
theorem ifEqS {i j : Str} {A B : Prop} (h1 : i = j → A) (h2 : i ≠ j → B) : if decide (V.str i = V.str j) = true then A else B := ifD (fun e => h1 (by injection e)) fun e => h2 fun z => e (by rw [z])
theorem ifNeS {i j : Str} {A B : Prop} (h1 : i ≠ j → A) (h2 : i = j → B) : if (!decide (V.str i = V.str j)) = true then A else B := ifN (fun e => h1 fun z => e (by rw [z])) fun e => h2 (by injection e)
theorem ifB {b : Bool} {A B : Prop} (h1 : b = true → A) (h2 : b = false → B) : if b = true then A else B := ite2 h1 fun e => h2 (by cases b; rfl; exact absurd rfl e)
theorem ifNB {b : Bool} {A B : Prop} (h1 : b = false → A) (h2 : b = true → B) : if (!b) = true then A else B := by
  cases b with
  | true => exact h2 rfl
  | false => exact h1 rfl
theorem list_take_succ {α : Type} {l : List α} {i : Nat} {x : α} (h : l[i]? = some x) : l.take (i + 1) = l.take i ++ [x] := by
  rw [List.take_succ, h]; rfl
end J
namespace J
open PySem L2
mutual
theorem Tm.wf_mono {fs : List Str} {B B' : Int} (h : B ≤ B') : ∀ t : Tm, t.wf fs B → t.wf fs B'
  | .var n, w => by
    have w : 0 ≤ n ∧ n < B := w
    exact ⟨w.1, by omega⟩
  | .app f ts, w => ⟨w.1, Tm.wfs_mono h ts w.2⟩
theorem Tm.wfs_mono {fs : List Str} {B B' : Int} (h : B ≤ B') : ∀ ts : List Tm, Tm.wfs fs B ts → Tm.wfs fs B' ts
  | [], _ => True.intro
  | t :: ts, w => ⟨Tm.wf_mono h t w.1, Tm.wfs_mono h ts w.2⟩
end
theorem Tm.wf.mono {fs : List Str} {B B' : Int} {t : Tm} (w : t.wf fs B) (h : B ≤ B') : t.wf fs B' := Tm.wf_mono h t w
end J

/-! ### texts as lists of signs -/
namespace J
open PySem L2

theorem len_tl (x : Str) : x.length = x.cps.toList.length := by
  show x.cps.size = _
  rw [Array.length_toList]
theorem tl_inj {x y : Str} (h : x.cps.toList = y.cps.toList) : x = y := by
  cases x; cases y
  exact congrArg Str.mk (Array.toList_inj.mp h)
theorem tl_app (x y : Str) : (x ++ y).cps.toList = x.cps.toList ++ y.cps.toList := TL.tl_append x y
theorem len_app (x y : Str) : (x ++ y).length = x.length + y.length := by
  rw [len_tl, tl_app, List.length_append, ← len_tl, ← len_tl]
/-- texts joined by nothing -/
theorem join0 : ∀ zs : List Str, (Txt.join "" zs).cps.toList = (zs.map fun z => z.cps.toList).flatten := by
  intro zs
  rw [TL.join_eq]
  show TL.tl (Str.join "" zs) = _
  rw [TL.tl_join]
  have e : TL.tl ("" : Str) = [] := rfl
  rw [e]
  induction zs with
  | nil => rfl
  | cons a r ih =>
    cases r with
    | nil => simp [TL.joinL]
    | cons b r => 
      show TL.tl a ++ ([] ++ TL.joinL [] (TL.tl b :: r.map TL.tl)) = _
      rw [List.nil_append, List.map_cons, List.flatten_cons, ← ih]
      rfl
theorem abc : ∀ k : Nat, k < 26 → ("abcdefghijklmnopqrstuvwxyz" : Str).cps.toList[k]? = some (97 + k) := by decide +kernel
theorem abc_at {r : Int} (h0 : 0 ≤ r) (h1 : r < 26) : atI ("abcdefghijklmnopqrstuvwxyz" : Str).cps.toList r = some (97 + r.toNat) := by
  have q := atI_nat (abc r.toNat (by omega))
  rw [Int.toNat_of_nonneg h0] at q
  exact q
theorem low_one {k : Nat} (h : k < 26) : Low ⟨#[97 + k]⟩ := fun c hc => by
  have hc : c ∈ [97 + k] := hc
  rw [List.mem_singleton] at hc
  omega
theorem low_app {x y : Str} (a : Low x) (b : Low y) : Low (x ++ y) := fun c hc => by
  rw [tl_app] at hc
  rcases List.mem_append.mp hc with h | h
  · exact a c h
  · exact b c h
theorem join_low {zs : List Str} (h : ∀ z ∈ zs, z.length = 1 ∧ Low z) : (Txt.join "" zs).length = zs.length ∧ Low (Txt.join "" zs) := by
  refine ⟨?_, fun c hc => ?_⟩
  · rw [len_tl, join0]
    induction zs with
    | nil => rfl
    | cons a r ih =>
      rw [List.map_cons, List.flatten_cons, List.length_append, ih fun z hz => h z (List.mem_cons_of_mem _ hz), ← len_tl, (h a (List.mem_cons_self ..)).1, List.length_cons]
      omega
  · rw [join0] at hc
    obtain ⟨l, hl, hc⟩ := List.mem_flatten.mp hc
    obtain ⟨z, hz, rfl⟩ := List.mem_map.mp hl
    exact (h z hz).2 c hc
theorem sum_ones {zs : List Str} (h : ∀ z ∈ zs, z.length = 1) : (zs.map (·.length)).sum = zs.length := by
  induction zs with
  | nil => rfl
  | cons a r ih =>
    rw [List.map_cons, List.sum_cons, ih fun z hz => h z (List.mem_cons_of_mem _ hz), h a (List.mem_cons_self ..), List.length_cons]
    omega
/-- the k-th drawn name -/
def nameAt (b e : Str) (f : Nat) (k : Nat) : Str := b ++ (⟨#[97 + (f + 3 * k) % 26]⟩ : Str) ++ e
theorem nameAt_len (b e : Str) (f k : Nat) : (nameAt b e f k).length = b.length + 1 + e.length := by
  unfold nameAt; rw [len_app, len_app]; rfl
theorem nameAt_low {b e : Str} (hb : Low b) (he : Low e) (f k : Nat) : Low (nameAt b e f k) := low_app (low_app hb (low_one (Nat.mod_lt _ (by decide)))) he
theorem nameAt_inj {b e : Str} {f i j : Nat} (hi : i < 26) (hj : j < 26) (h : nameAt b e f i = nameAt b e f j) : i = j := by
  have h1 : (nameAt b e f i).cps.toList = (nameAt b e f j).cps.toList := by rw [h]
  unfold nameAt at h1
  rw [tl_app, tl_app, tl_app, tl_app] at h1
  have h2 := List.append_cancel_right h1
  have h3 := List.append_cancel_left h2
  have h4 : 97 + (f + 3 * i) % 26 = 97 + (f + 3 * j) % 26 := by
    have h3 : [97 + (f + 3 * i) % 26] = [97 + (f + 3 * j) % 26] := h3
    injection h3
  omega
theorem names_ok {b e : Str} {f m : Nat} (hb : Low b) (he : Low e) (lb : b.length ≤ 3) (le : e.length ≤ 3) (hm : m ≤ 26) : Names ((List.range m).map (nameAt b e f)) := by
  refine ⟨fun x hx => ?_, fun x hx => ?_, fun x hx => ?_, ?_⟩
  · obtain ⟨k, _, rfl⟩ := List.mem_map.mp hx
    exact nameAt_low hb he f k
  · obtain ⟨k, _, rfl⟩ := List.mem_map.mp hx
    rw [nameAt_len]; omega
  · obtain ⟨k, _, rfl⟩ := List.mem_map.mp hx
    rw [nameAt_len]; omega
  · refine List.nodup_iff_pairwise_ne.mpr (List.pairwise_map.mpr ?_)
    refine (List.nodup_iff_pairwise_ne.mp List.nodup_range).imp_of_mem ?_
    intro i j hi hj ne h
    exact ne (nameAt_inj (by have := List.mem_range.mp hi; omega) (by have := List.mem_range.mp hj; omega) h)
end J

/-! ### symbols, variables, substitutions -/
namespace J
open PySem L2
mutual
def syms : Tm → List V
  | .var n => [.int n]
  | .app f ts => .str f :: symss ts
def symss : List Tm → List V
  | [] => []
  | t :: ts => syms t ++ symss ts
end
mutual
/-- the occurrences of variables, from left to right -/
def occ : Tm → List Int
  | .var n => [n]
  | .app _ ts => occs ts
def occs : List Tm → List Int
  | [] => []
  | t :: ts => occ t ++ occs ts
end
/-- one by one, what is not there yet -/
def adds (acc : List Int) : List Int → List Int
  | [] => acc
  | n :: r => adds (if n ∈ acc then acc else acc ++ [n]) r
def vars (t : Tm) : List Int := adds [] (occ t)
theorem adds_app : ∀ (l1 l2 acc : List Int), adds acc (l1 ++ l2) = adds (adds acc l1) l2
  | [], _, _ => rfl
  | n :: r, l2, acc => by show adds _ (r ++ l2) = adds (adds _ r) l2; rw [adds_app r l2]
theorem adds_mem : ∀ (l acc : List Int) {n : Int}, n ∈ adds acc l ↔ n ∈ acc ∨ n ∈ l
  | [], acc, n => by show n ∈ acc ↔ _; simp
  | k :: r, acc, n => by
    show n ∈ adds _ r ↔ _
    rw [adds_mem r]
    by_cases h : k ∈ acc
    · rw [if_pos h, List.mem_cons]
      constructor
      · rintro (a | a)
        · exact .inl a
        · exact .inr (.inr a)
      · rintro (a | a | a)
        · exact .inl a
        · exact .inl (a ▸ h)
        · exact .inr a
    · rw [if_neg h, List.mem_append, List.mem_singleton, List.mem_cons]
      constructor
      · rintro ((a | a) | a)
        · exact .inl a
        · exact .inr (.inl a)
        · exact .inr (.inr a)
      · rintro (a | a | a)
        · exact .inl (.inl a)
        · exact .inl (.inr a)
        · exact .inr a
theorem adds_nodup : ∀ (l acc : List Int), acc.Nodup → (adds acc l).Nodup
  | [], _, h => h
  | k :: r, acc, h => by
    show (adds _ r).Nodup
    refine adds_nodup r _ ?_
    by_cases hk : k ∈ acc
    · rw [if_pos hk]; exact h
    · rw [if_neg hk]
      refine List.nodup_append.mpr ⟨h, (by simp), fun a ha b hb => ?_⟩
      rw [List.mem_singleton] at hb
      exact fun e => hk (by rw [← hb, ← e]; exact ha)
theorem adds_two : ∀ (l b acc : List Int), adds acc (adds b l) = adds (adds acc b) l
  | [], _, _ => rfl
  | n :: r, b, acc => by
    show adds acc (adds _ r) = adds _ r
    rw [adds_two r]
    by_cases h : n ∈ b
    · rw [if_pos h, if_pos ((adds_mem b acc).mpr (.inr h))]
    · rw [if_neg h, adds_app]
      rfl
theorem adds_len : ∀ (l acc : List Int), (adds acc l).length ≤ acc.length + l.length
  | [], _ => Nat.le_refl _
  | n :: r, acc => by
    have := adds_len r (if n ∈ acc then acc else acc ++ [n])
    show (adds _ r).length ≤ acc.length + (r.length + 1)
    have h2 : (if n ∈ acc then acc else acc ++ [n]).length ≤ acc.length + 1 := by
      by_cases h : n ∈ acc
      · rw [if_pos h]; omega
      · rw [if_neg h, List.length_append]; exact Nat.le_refl _
    omega
def intsOf (l : List V) : List Int := l.filterMap fun v => match v with | .int n => some n | _ => none
theorem intsOf_app (a b : List V) : intsOf (a ++ b) = intsOf a ++ intsOf b := List.filterMap_append ..
mutual
theorem ints_syms : ∀ t : Tm, intsOf (syms t) = occ t
  | .var n => rfl
  | .app f ts => by show intsOf (symss ts) = occs ts; exact ints_symss ts
theorem ints_symss : ∀ ts : List Tm, intsOf (symss ts) = occs ts
  | [] => rfl
  | t :: ts => by show intsOf (syms t ++ symss ts) = occ t ++ occs ts; rw [intsOf_app, ints_syms t, ints_symss ts]
end
mutual
theorem syms_len : ∀ t : Tm, (syms t).length = t.sz
  | .var _ => rfl
  | .app f ts => by show (symss ts).length + 1 = 1 + Tm.szs ts; rw [symss_len ts]; omega
theorem symss_len : ∀ ts : List Tm, (symss ts).length = Tm.szs ts
  | [] => rfl
  | t :: ts => by show (syms t ++ symss ts).length = t.sz + Tm.szs ts; rw [List.length_append, syms_len t, symss_len ts]
end
mutual
theorem occ_len : ∀ t : Tm, (occ t).length ≤ t.sz
  | .var _ => Nat.le_refl _
  | .app f ts => by show (occs ts).length ≤ 1 + Tm.szs ts; have := occs_len ts; omega
theorem occs_len : ∀ ts : List Tm, (occs ts).length ≤ Tm.szs ts
  | [] => Nat.le_refl _
  | t :: ts => by show (occ t ++ occs ts).length ≤ t.sz + Tm.szs ts; have := occ_len t; have := occs_len ts; rw [List.length_append]; omega
end
theorem symss_app : ∀ a b : List Tm, symss (a ++ b) = symss a ++ symss b
  | [], _ => rfl
  | t :: ts, b => by show syms t ++ symss (ts ++ b) = (syms t ++ symss ts) ++ symss b; rw [symss_app ts b, List.append_assoc]
theorem szs_app : ∀ a b : List Tm, Tm.szs (a ++ b) = Tm.szs a + Tm.szs b
  | [], _ => by show _ = 0 + _; rw [Nat.zero_add]; rfl
  | t :: ts, b => by show t.sz + Tm.szs (ts ++ b) = (t.sz + Tm.szs ts) + Tm.szs b; rw [szs_app ts b]; omega
theorem szs_rev : ∀ a : List Tm, Tm.szs a.reverse = Tm.szs a
  | [] => rfl
  | t :: ts => by
    rw [List.reverse_cons, szs_app, szs_rev ts]
    show Tm.szs ts + (t.sz + 0) = t.sz + Tm.szs ts
    omega
theorem TmsIn.rev {H : Hp} : ∀ {ts : List Tm} {vs : List V}, TmsIn H ts vs → TmsIn H ts.reverse vs.reverse
  | [], _, h => by cases (show _ = [] from h); rfl
  | t :: ts, _, ⟨v, r, rfl, h, q⟩ => by
    rw [List.reverse_cons, List.reverse_cons]
    exact TmsIn.append (TmsIn.rev q) (TmsIn.one h)
theorem TmsIn.snoc {H : Hp} {ts : List Tm} {vs : List V} {v : V} (h : TmsIn H ts vs) (e : vs[vs.length - 1]? = some v) : ∃ us t, ts = us ++ [t] ∧ TmIn H t v ∧ TmsIn H us vs.dropLast := by
  have hl := h.length
  rcases List.eq_nil_or_concat ts with z | ⟨us, t, z⟩
  · subst z
    have : vs = [] := List.length_eq_zero_iff.mp (by rw [hl]; rfl)
    subst this
    simp at e
  · rw [List.concat_eq_append] at z
    subst z
    have hn : vs ≠ [] := fun w => by rw [w] at hl; simp at hl
    have e2 : vs = vs.dropLast ++ [v] := by
      have h1 := List.dropLast_concat_getLast hn
      have h2 : vs.getLast hn = v := by
        rw [List.getLast_eq_getElem]
        have := List.getElem?_eq_some_iff.mp e
        exact this.2
      rw [h2] at h1
      exact h1.symm
    have key : ∀ (us : List Tm) (ws : List V) (t : Tm) (v : V), us.length = ws.length → TmsIn H (us ++ [t]) (ws ++ [v]) → TmIn H t v ∧ TmsIn H us ws := by
      intro us
      induction us with
      | nil =>
        intro ws t v hl q
        have : ws = [] := List.length_eq_zero_iff.mp hl.symm
        subst this
        obtain ⟨a, r, e, h1, _⟩ := q
        injection e with e _
        exact ⟨e ▸ h1, rfl⟩
      | cons u us ih =>
        intro ws t v hl q
        match ws, hl with
        | w :: ws, hl =>
          obtain ⟨a, r, e, h1, h2⟩ := q
          injection e with e1 e2
          subst e1
          have := ih ws t v (by simpa using hl) (by rw [← e2] at h2; exact h2)
          exact ⟨this.1, w, ws, rfl, h1, this.2⟩
    rw [e2] at h
    have hl2 : us.length = vs.dropLast.length := by rw [List.length_dropLast, hl, List.length_append]; simp
    have q := key us _ t v hl2 h
    exact ⟨us, t, rfl, q.1, q.2⟩
mutual
theorem Tm.dep_le_sz : ∀ t : Tm, t.dep ≤ t.sz
  | .var _ => Nat.le_refl _
  | .app _ ts => by show 1 + Tm.deps ts ≤ 1 + Tm.szs ts; have := Tm.deps_le_szs ts; omega
theorem Tm.deps_le_szs : ∀ ts : List Tm, Tm.deps ts ≤ Tm.szs ts
  | [] => Nat.le_refl _
  | t :: ts => by show max t.dep (Tm.deps ts) ≤ t.sz + Tm.szs ts; have := Tm.dep_le_sz t; have := Tm.deps_le_szs ts; omega
end
theorem occs_app : ∀ a b : List Tm, occs (a ++ b) = occs a ++ occs b
  | [], _ => rfl
  | t :: ts, b => by show occ t ++ occs (ts ++ b) = (occ t ++ occs ts) ++ occs b; rw [occs_app ts b, List.append_assoc]
theorem szs_take (ts : List Tm) (i : Nat) : Tm.szs (ts.take i) ≤ Tm.szs ts := by
  have h := szs_app (ts.take i) (ts.drop i)
  rw [List.take_append_drop] at h
  omega
theorem map_get {l : List Int} {i : Nat} {y : V} (h : (l.map V.int)[i]? = some y) : ∃ n, l[i]? = some n ∧ y = .int n := by
  rw [List.getElem?_map] at h
  cases e : l[i]? with
  | none => rw [e] at h; cases h
  | some n => rw [e] at h; exact ⟨n, rfl, (Option.some.inj h).symm⟩
theorem inV_ints (n : Int) : ∀ l : List Int, inV (.int n) (l.map V.int) = decide (n ∈ l) := by
  intro l
  unfold inV
  rw [List.any_map]
  refine Bool.eq_iff_iff.mpr ?_
  rw [List.any_eq_true, decide_eq_true_iff]
  constructor
  · rintro ⟨x, hx, e⟩
    have e : (x == n) = true := e
    rw [← eq_of_beq e]; exact hx
  · intro h
    exact ⟨n, h, beq_self_eq_true n⟩
mutual
theorem syms_kind : ∀ (t : Tm) (y : V), y ∈ syms t → (∃ n, y = .int n) ∨ ∃ f, y = .str f
  | .var n, y, h => .inl ⟨n, by simpa [syms] using h⟩
  | .app f ts, y, h => by
    rcases List.mem_cons.mp (show y ∈ V.str f :: symss ts from h) with e | h
    · exact .inr ⟨f, e⟩
    · exact symss_kind ts y h
theorem symss_kind : ∀ (ts : List Tm) (y : V), y ∈ symss ts → (∃ n, y = .int n) ∨ ∃ f, y = .str f
  | [], _, h => nomatch h
  | t :: ts, y, h => by
    rcases List.mem_append.mp (show y ∈ syms t ++ symss ts from h) with h | h
    · exact syms_kind t y h
    · exact symss_kind ts y h
end
/-- a dict of True by ints -/
def kd (l : List Int) : List (Key × V) := l.map fun n => (.inl n, .bl true)
theorem kd_val (l : List Int) (n : Int) : valV (kd l) (.inl n) = if n ∈ l then some (.bl true) else none := by
  induction l with
  | nil => rfl
  | cons a r ih =>
    by_cases h : a = n
    · subst h
      rw [if_pos (List.mem_cons_self ..)]
      exact valV_pos (p := ((.inl a : Key), V.bl true)) rfl
    · have e : ¬ ((Sum.inl a : Key) = .inl n) := fun z => h (Sum.inl.inj z)
      show valV (((.inl a : Key), V.bl true) :: kd r) (.inl n) = _
      rw [valV_neg e, ih]
      by_cases h2 : n ∈ r
      · rw [if_pos h2, if_pos (List.mem_cons_of_mem _ h2)]
      · rw [if_neg h2, if_neg fun z => (List.mem_cons.mp z).elim (fun z => h z.symm) h2]
theorem kd_put (l : List Int) (n : Int) : putK (kd l) (.inl n) (.bl true) = kd (if n ∈ l then l else l ++ [n]) := by
  by_cases h : n ∈ l
  · rw [if_pos h]
    unfold putK
    rw [if_pos (by rw [valV_any, kd_val, if_pos h]; rfl)]
    unfold kd
    rw [List.map_map]
    refine List.map_congr_left fun a _ => ?_
    show (if (Sum.inl a : Key) = .inl n then ((Sum.inl a : Key), V.bl true) else _) = _
    by_cases e : (Sum.inl a : Key) = .inl n
    · rw [if_pos e]
    · rw [if_neg e]
  · rw [if_neg h, putK_new _ (by rw [kd_val, if_neg h])]
    unfold kd
    rw [List.map_append]; rfl
theorem kd_len (l : List Int) : (kd l).length = l.length := List.length_map _

/-! substitutions -/
mutual
def sub (m : Int → Option Tm) : Tm → Tm
  | .var n => (m n).getD (.var n)
  | .app f ts => .app f (subs m ts)
def subs (m : Int → Option Tm) : List Tm → List Tm
  | [] => []
  | t :: ts => sub m t :: subs m ts
end
theorem subs_map (m : Int → Option Tm) : ∀ ts, subs m ts = ts.map (sub m)
  | [] => rfl
  | t :: ts => by show sub m t :: subs m ts = _; rw [subs_map m ts]; rfl
/-- the dict at d says what m says -/
def SbIn (H : Hp) (d : Addr) (m : Int → Option Tm) : Prop := ∃ kvs : List (Key × V), H d = some (.dK kvs) ∧ ∀ n, match m n with
  | none => valV kvs (.inl n) = none
  | some t => ∃ v, valV kvs (.inl n) = some v ∧ TmIn H t v
theorem SbIn.mono {H H' : Hp} {d : Addr} {m : Int → Option Tm} (h : SbIn H d m) (t : Tu H H') (e : ∀ kvs, H d = some (.dK kvs) → H' d = some (.dK kvs)) : SbIn H' d m := by
  obtain ⟨kvs, h1, h2⟩ := h
  refine ⟨kvs, e _ h1, fun n => ?_⟩
  have := h2 n
  cases hm : m n with
  | none => rw [hm] at this; exact this
  | some u =>
    rw [hm] at this
    obtain ⟨v, a, b⟩ := this
    exact ⟨v, a, b.tu t⟩
theorem SbIn.same {H H' : Hp} {d : Addr} {m : Int → Option Tm} (h : SbIn H d m) (s : Same H H') : SbIn H' d m := h.mono (tu_same s) fun _ e => s _ _ e
theorem SbIn.at {H : Hp} {d : Addr} {m : Int → Option Tm} (h : SbIn H d m) : ∃ kvs, H d = some (.dK kvs) := let ⟨k, e, _⟩ := h; ⟨k, e⟩
/-- d.get(n, n) -/
theorem SbIn.get {H : Hp} {d : Addr} {m : Int → Option Tm} (h : SbIn H d m) (n : Int) : ∃ o, DGet H d (.int n) o ∧ TmIn H ((m n).getD (.var n)) (o.getD (.int n)) := by
  obtain ⟨kvs, h1, h2⟩ := h
  have := h2 n
  refine ⟨valV kvs (.inl n), DGet.k (k := Sum.inl n) h1, ?_⟩
  cases hm : m n with
  | none => rw [hm] at this; rw [this]; rfl
  | some u =>
    rw [hm] at this
    obtain ⟨v, a, b⟩ := this
    rw [a]; exact b
theorem SbIn.put {H : Hp} {d : Addr} {m : Int → Option Tm} {kvs : List (Key × V)} (h1 : H d = some (.dK kvs)) (h2 : ∀ n, match m n with | none => valV kvs (.inl n) = none | some t => ∃ v, valV kvs (.inl n) = some v ∧ TmIn H t v)
    {H' : Hp} (tu : Tu H H') {k : Int} {t : Tm} {v : V} (ht : TmIn H' t v) (e : H' d = some (.dK (putK kvs (.inl k) v))) : SbIn H' d (fun n => if n = k then some t else m n) := by
  refine ⟨_, e, fun n => ?_⟩
  have := h2 n
  rw [valV_put]
  by_cases hn : n = k
  · subst hn
    simp only [if_true]
    exact ⟨v, rfl, ht⟩
  · have hn' : ¬ ((Sum.inl n : Key) = .inl k) := fun z => hn (Sum.inl.inj z)
    simp only [if_neg hn, if_neg hn']
    cases hm : m n with
    | none => rw [hm] at this; exact this
    | some u =>
      rw [hm] at this
      obtain ⟨w, a, b⟩ := this
      exact ⟨w, a, b.tu tu⟩

/-! while xs: -/
theorem while_list {K : PySem.W.Frag} {i : Nat} {tb : TS} {D : Ends} {σ : L2.St} {H : Hp} (Pv : L2.St → Hp → Prop) (μ : L2.St → Hp → Nat) (h0 : Pv σ H)
    (hs : ∀ σ H, Pv σ H → ∃ p xs, σ[i]? = some (some (.ref p)) ∧ H p = some (.lst xs) ∧ (xs = [] → D.nx σ H) ∧ (xs ≠ [] → tb { D with nx := fun σ' H' => Pv σ' H' ∧ μ σ' H' < μ σ H, ct := fun σ' H' => Pv σ' H' ∧ μ σ' H' < μ σ H, bk := D.nx } σ H)) :
    tWhile (fun σ H Q => tVar i σ H fun x H' => ∃ k, TruV K x H' k ∧ Q k H') tb D σ H := by
  refine while_by Pv μ h0 (fun σ H p => ?_) fun σ H Q Q' m ⟨v, e, k, t, q⟩ => ⟨v, e, k, t, m _ _ q⟩
  obtain ⟨a, xs, e, hp, h1, h2⟩ := hs σ H p
  refine ⟨_, e, _, .inl ⟨xs, SqL.of hp, rfl⟩, ?_⟩
  cases xs with
  | nil => exact h1 rfl
  | cons x xs => exact h2 (List.cons_ne_nil _ _)
end J

/-! ### rules of our own: a list extended by a tuple, t[:0:-1] -/
namespace J
open PySem L2 PyProof.Rows
section
open PySem PySem.Builtin
theorem ext_tup (l : Addr) (xs : Array Value) (n : Nat) (b : Addr) (ys : Array Value) (m : Nat) (d : Option Addr) (sl : Array (Option Value))
    (h0 : ¬(!xs.isEmpty && Builtin.List.listTooLong (xs.size + ys.size)) = true) (h1 : xs.size ≤ sizeLine) (h2 : xs.size + ys.size ≤ sizeLine + 1) :
    Meets (Builtin.«list.extend» ⟨[.ref l, .ref b], []⟩) (fun _ R s => s.heap.get? l = some ⟨.type "list", none, .seq xs n, #[]⟩ ∧ s.heap.get? b = some ⟨.type "tuple", d, .seq ys m, sl⟩ ∧
      R (.ok (.ret Value.none)) { s with heap := s.heap.update l (Obj.mapSeq fun x => x ++ ys), toks := s.toks }) := by
  refine .of_wp fun prog w A R s h => ?_
  obtain ⟨hp, g, dd, tk, os⟩ := s
  obtain ⟨hl, hb, h⟩ := h
  have f1 := AutoSeq1.idx_int
  have f2 := AutoSeq1.sub_tuple_tuple
  have f4 := AutoSeq1.sub_tuple_list
  have f5 := AutoSeq1.sub_list_tuple
  have f3 := AutoSeq1.sub_list_list
  have hz' : (xs ++ ys).size ≤ sizeLine + 1 := by rw [Array.size_append]; exact h2
  wp_walk using (wpAny_updateSeq hl rfl (hz := h1) (_hz' := hz')), AutoSeq1.wpAny_loadPart' hl, AutoSeq1.wpAny_loadPart' hb
  exact ⟨_, rfl, h⟩
end
def rExtT (K : PySem.W.Frag) : V → List V → Hp → VK → Prop := fun x vs H Q => ∃ l b xs zs, x = .ref l ∧ vs = [.ref b] ∧ H l = some (.lst xs) ∧ SqT K H b zs ∧ xs.length + zs.length ≤ sizeLine ∧ Q .non (upd H l (.lst (xs ++ zs)))
section
variable {X : Cx}
theorem mt_extT : MtM X "list.extend" (rExtT X.K) := by
  intro pins s σ H x vs v us Q I rx rv h
  obtain ⟨l, b, xs, zs, rfl, rfl, hH, hB, hz, q⟩ := h
  cases rx
  obtain ⟨u, rfl, ru⟩ := rv.one
  cases ru
  obtain ⟨_, its, n, r, hl, e⟩ := I.lstM hH
  obtain ⟨its2, r2, ⟨o, ho, hc, m, hd⟩, _⟩ := I.tuple hB
  have hl2 := r2.length
  obtain ⟨oc, od, oda, osl⟩ := o
  cases hc
  cases hd
  have sz : its.toArray.size + its2.toArray.size ≤ sizeLine := by rw [List.size_toArray, List.size_toArray, ← hl, ← hl2]; exact hz
  have door : ¬ (!its.toArray.isEmpty && Builtin.List.listTooLong (its.toArray.size + its2.toArray.size)) = true := by
    rw [notLongL sz, Bool.and_false]; exact Bool.false_ne_true
  refine call_meets F.slot_list_extend ⟨_, e, rfl⟩ F.entry_list_extend (F.args_list_extend_2 _ _) (ext_tup l its.toArray n b its2.toArray m od osl door (by omega) (by omega)) ⟨e, ho, ?_⟩
  refine ⟨.non, _, I.lset (its' := its ++ its2) hH e (by simp) (r.append r2) ?_, rfl, q⟩
  rw [List.length_append]; exact hz
end

/-! t[:0:-1] -/
theorem adj_rev (n : Nat) : Builtin.Slice.sliceAdjust none (some 0) (-1) ((n + 1 : Nat) : Int) = ((n : Int), 0) := by
  unfold Builtin.Slice.sliceAdjust
  simp only [show ((-1 : Int) < 0) = True from eq_true (by decide), if_true]
  have e1 : ¬ ((0 : Int) < 0) := by decide
  rw [if_neg e1]
  refine Prod.ext ?_ ?_
  · show ((n + 1 : Nat) : Int) - 1 = n
    omega
  · show min (0 : Int) (((n + 1 : Nat) : Int) - 1) = 0
    omega
theorem places_rev (n : Nat) : Builtin.Slice.slicePlaces (n : Int) 0 (-1) = n := by
  unfold Builtin.Slice.slicePlaces
  rw [if_neg (by decide : ¬ ((-1 : Int) > 0))]
  by_cases h : (n : Int) > 0
  · rw [if_pos h, show (- -1 : Int) = 1 by decide, Int.ediv_one]
    omega
  · rw [if_neg h]; omega
section
variable {prog : Program} {w : World} {A : Around} {E : Value → Shared → Prop} {s : Shared}
theorem applied_rev {sl : Addr} {vu vs : Value} {n : Nat} {Q : Int × Int × Nat → Shared → Prop} (hs : s.heap.IsSliceOf sl .none vu vs) (pu : IsPart vu (some 0)) (ps : IsPart vs (some (-1)))
    (h : Q ((n : Int), -1, n) s) : wpAny (model prog w) A (Builtin.Slice.sliceApplied (.ref sl) (pure ((n + 1 : Nat) : Int))) Q E s := by
  obtain ⟨os, hos, hcs, hds⟩ := id hs
  unfold Builtin.Slice.sliceApplied Builtin.Slice.sliceFields
  refine wpAny_bind (wpAny_bind (wpAny_field hos hds (x := .none) rfl (wpAny_bind (wpAny_field hos hds (x := vu) rfl (wpAny_bind (wpAny_field hos hds (x := vs) rfl (wpAny_pure ?_)))))))
  refine wpAny_bind (HT.slicePart_ ps ?_)
  show wpAny _ _ (if ((-1 : Int) == 0) = true then _ else _) _ _ s
  rw [if_neg (by decide)]
  refine wpAny_bind (slicePart_none (wpAny_bind (HT.slicePart_ pu (wpAny_bind (wpAny_pure ?_)))))
  show wpAny _ _ (match Builtin.Slice.sliceAdjust none (some 0) (-1) ((n + 1 : Nat) : Int) with | (lo, hi) => pure (lo, (-1 : Int), Builtin.Slice.slicePlaces lo hi (-1))) _ _ s
  rw [adj_rev]
  show wpAny _ _ (pure ((n : Int), (-1 : Int), Builtin.Slice.slicePlaces (n : Int) 0 (-1))) _ _ s
  rw [places_rev]
  exact wpAny_pure h
theorem fm_congr {α β : Type} {f g : α → Option β} : ∀ {l : List α}, (∀ k ∈ l, f k = g k) → l.filterMap f = l.filterMap g
  | [], _ => rfl
  | a :: l, h => by
    rw [List.filterMap_cons, List.filterMap_cons, h a (List.mem_cons_self ..), fm_congr fun k hk => h k (List.mem_cons_of_mem _ hk)]
theorem pick_rev (x : Value) (xs : List Value) : ((List.range xs.length).filterMap fun (k : Nat) => (x :: xs).toArray[((xs.length : Int) + (k : Int) * -1).toNat]?) = xs.reverse := by
  have e : ∀ (l : List Nat), (∀ k ∈ l, k < xs.length) → (l.filterMap fun (k : Nat) => (x :: xs).toArray[((xs.length : Int) + (k : Int) * -1).toNat]?) = l.filterMap fun k => xs[xs.length - 1 - k]? := by
    intro l hl
    refine fm_congr fun k hk => ?_
    have h1 := hl k hk
    have e1 : ((xs.length : Int) + (k : Int) * -1).toNat = (xs.length - 1 - k) + 1 := by omega
    rw [e1]
    show ((x :: xs).toArray[(xs.length - 1 - k) + 1]?) = _
    rw [List.getElem?_toArray, List.getElem?_cons_succ]
  rw [e _ fun k hk => List.mem_range.mp hk]
  have e2 : ∀ (l : List Nat), (∀ k ∈ l, k < xs.length) → (l.filterMap fun k => xs[xs.length - 1 - k]?) = l.filterMap fun k => xs.reverse[k]? := by
    intro l hl
    refine fm_congr fun k hk => ?_
    rw [List.getElem?_reverse (hl k hk)]
  rw [e2 _ fun k hk => List.mem_range.mp hk]
  have e3 : ∀ (ys : List Value), ((List.range ys.length).filterMap fun k => ys[k]?) = ys := by
    intro ys
    have := PySem.W.krv_all ys.toArray
    simpa using this
  have := e3 xs.reverse
  rwa [List.length_reverse] at this
theorem item_rev {t sl : Addr} {x : Value} {xs : List Value} {vu vs : Value} {Q : Value → Shared → Prop} (ht : IsTup s.heap t (x :: xs).toArray) (hs : s.heap.IsSliceOf sl .none vu vs) (pu : IsPart vu (some 0)) (ps : IsPart vs (some (-1)))
    (h : Q (.ref s.heap.objs.size) { s with heap := s.heap.push { cls := .type "tuple", data := .seq xs.reverse.toArray } }) (hsz : xs.length ≤ sizeLine) : wpAny (model prog w) A (getItem (.ref t) (.ref sl)) Q E s := by
  have htake : sizeOk (.seq xs.reverse.toArray) := by
    show xs.reverse.toArray.size ≤ sizeLine
    rw [List.size_toArray, List.length_reverse]; exact hsz
  obtain ⟨os, hos, hcs, hds⟩ := id hs
  have hTs : s.TypeIs (.ref sl) "slice" := ⟨os, hos, hcs⟩
  unfold getItem
  try with_reducible refine wpAny_holding ?_
  first | refine wpAny_bind (wpAny_pure ?_) | skip
  refine wpAny_bind (wpAny_sequenceKey ht.typeIs (by decide) ?_)
  refine wpAny_bind (wpAny_callSpecial?_slot (name := Str.ofString "__getitem__") ht.typeIs PyProof.Rows.slot_tuple_getitem
    (wpAny_call_entry PyProof.Rows.slot_tuple_getitem ht.typeIs entry_tuple_getitem ?_ (args_tuple_getitem _ _)))
  show wpAny _ _ (Builtin.Tuple.tupleItemsOf (.ref t) >>= _) _ _ s
  refine wpAny_bind (PyProof.Rows.tupleItemsOf_ ht ?_)
  refine wpAny_bind (wpAny_typeOf hTs ?_)
  rw [if_pos (by decide)]
  have e0 : (x :: xs).toArray.size = xs.length + 1 := by rw [List.size_toArray]; rfl
  rw [e0]
  refine wpAny_bind (applied_rev (n := xs.length) hs pu ps ?_)
  have hno : ¬ (((xs.length : Int) == 0 && ((-1 : Int) == 1) && (xs.length == xs.length + 1)) = true) := by
    intro q
    rw [Bool.and_eq_true, Bool.and_eq_true] at q
    exact absurd q.1.2 (by decide)
  show wpAny _ _ (if ((xs.length : Int) == 0 && ((-1 : Int) == 1) && (xs.length == xs.length + 1)) = true then _ else _) _ _ s
  rw [if_neg hno, pick_rev]
  first
    | exact wpAny_bind (m := Builtin.Tuple.tupleExact _) (wpAny_newObj_type (wpAny_pure ⟨_, rfl, wpAny_pure h⟩) htake)
    | exact wpAny_bind (m := Builtin.Tuple.tupleExact _) (wpAny_newObj_type (wpAny_bind (wpAny_pure (wpAny_pure ⟨_, rfl, wpAny_pure h⟩))) htake)
    | exact wpAny_bind (wpAny_bind (m := Builtin.Tuple.tupleExact _) (wpAny_newObj_type (wpAny_pure (wpAny_pure ⟨_, rfl, wpAny_pure h⟩)) htake))
    | exact wpAny_bind (wpAny_bind (m := Builtin.Tuple.tupleExact _) (wpAny_newObj_type (wpAny_pure ⟨_, rfl, wpAny_pure h⟩) htake))
end
def tRevT (K : PySem.W.Frag) (te : TE) : TE := fun σ H Q => te σ H fun x H1 => ∃ a y ys, x = .ref a ∧ SqT K H1 a (y :: ys) ∧ ∀ p, H1 p = none → Q (.ref p) (upd H1 p (.tup ys.reverse))
theorem pe_revT {X : Cx} {e : Expr} {te : TE} {k k0 : Nat} {p0 p1 p2 p3 pos : Pos} (he : PE X e te) : PE X (.Subscript e (.Slice none (some (.Constant (.int 0) k0 p0)) (some (.UnaryOp .USub (.Constant (.int 1) k p1) p2)) p3) pos) (tRevT X.K te) := by
  refine ⟨fun pins s σ H Q I h => ?_⟩
  refine Subscript_ (thn (he.run pins s σ H _ I h) fun v s1 ⟨x, H1, I1, r1, q1⟩ => ?_)
  obtain ⟨a, y, ys, ex, hx, q⟩ := q1
  subst ex
  cases r1
  have hst : PO X (some (.UnaryOp .USub (.Constant (.int 1) k p1) p2)) (tPart (tUn (rU fun i => .int (-i)) (tC (.int 1)))) := po_some (pe_un un_neg pe_int)
  have hup : PO X (some (.Constant (.int 0) k0 p0)) (tPart (tC (.int 0))) := po_some pe_int
  rw [show (Expr.Slice none (some (.Constant (.int 0) k0 p0)) (some (.UnaryOp .USub (.Constant (.int 1) k p1) p2)) p3) = Expr.Slice none (some (.Constant (.int 0) k0 p0)) (some (.UnaryOp .USub (.Constant (.int 1) k p1) p2)) p3 from rfl]
  refine wpAny_Slice (thn (po_none.run pins s1 σ H1 (fun o H2 => o = none ∧ H2 = H1) I1 ⟨rfl, rfl⟩) fun vl s2 ⟨l, H2, I2, pl, el, e2⟩ => ?_)
  subst el e2
  refine thn (hup.run pins s2 σ H2 (fun o H3 => o = some 0 ∧ H3 = H2) I2 ⟨0, rfl, rfl, rfl⟩) fun vu s3 ⟨u, H3, I3, pu, eu, e3⟩ => ?_
  subst eu e3
  refine thn (hst.run pins s3 σ H3 (fun o H4 => o = some (-1) ∧ H4 = H3) I3 ⟨1, rfl, -1, rfl, rfl, rfl⟩) fun vs s4 ⟨o, H4, I4, ps, eo, e4⟩ => ?_
  subst eo e4
  cases pl
  have I5 : Inv X pins σ H4 { s4 with heap := s4.heap.push { cls := .type "slice", data := .fields #[.none, vu, vs] } } := I4.kept (t' := s4.toks) fun b ob q => Heap.get?_push_of_some _ q
  obtain ⟨its, r, ht, hz⟩ := I5.tuple hx
  match its, r with
  | z :: zs, .cons rz rzs =>
  have hlen := rzs.length
  show wpAny (model X.prog X.w) X.A (subscriptTail e (.Slice none (some (.Constant (.int 0) k0 p0)) (some (.UnaryOp .USub (.Constant (.int 1) k p1) p2)) p3) (.ref a) (.ref s4.heap.objs.size)) (EP X pins σ Q) X.xe { s4 with heap := s4.heap.push { cls := .type "slice", data := .fields #[.none, vu, vs] } }
  refine tail_any (ops := [.ref a, .ref s4.heap.objs.size]) ht.typeIs PyProof.Rows.slot_tuple_getitem.lookup ?_ (by with_unfolding_all rfl)
  have hz' : ys.length ≤ sizeLine := by
    have : ys.length + 1 ≤ sizeLine := hz
    omega
  refine item_rev ht (Heap.IsSliceOf.new _ .none vu vs) pu ps ?_ (by rw [← hlen]; exact hz')
  refine ⟨.ref _, _, I5.laid (t' := s4.toks) (o := .tup ys.reverse) (fun b ob q => Heap.get?_push_of_some _ q) (Nat.le_refl _) ?_, rfl, q _ (I5.hok.fresh (Nat.le_refl _))⟩
  exact ⟨by rw [List.length_reverse]; exact hz', _, L2.Vals.reverse rzs, IsTup.new _ _⟩
end J

/-! ### positions -/
namespace J
open PySem L2
mutual
def poss : Tm → List (List Int)
  | .var _ => [[]]
  | .app _ ts => [] :: posss 1 ts
def posss : Nat → List Tm → List (List Int)
  | _, [] => []
  | k, t :: ts => (poss t).map (fun q => (k : Int) :: q) ++ posss (k + 1) ts
end
/-- q is a position of t -/
def IsPos : List Int → Tm → Prop
  | [], _ => True
  | k :: q, .app _ ts => 1 ≤ k ∧ ∃ t, ts[(k - 1).toNat]? = some t ∧ IsPos q t
  | _ :: _, .var _ => False
def rep (u : Tm) : List Int → Tm → Tm
  | [], _ => u
  | k :: q, .app f ts => .app f (ts.set (k - 1).toNat (rep u q (ts.getD (k - 1).toNat u)))
  | _ :: _, .var n => .var n
/-- the subterm at q -/
def at? : List Int → Tm → Option Tm
  | [], t => some t
  | k :: q, .app _ ts => if 1 ≤ k then (ts[(k - 1).toNat]?).bind (at? q) else none
  | _ :: _, .var _ => none
mutual
theorem poss_is : ∀ (t : Tm) (q : List Int), q ∈ poss t → IsPos q t ∧ q.length < t.dep
  | .var n, q, h => by
    rw [List.mem_singleton.mp (show q ∈ [[]] from h)]
    exact ⟨trivial, Nat.one_pos⟩
  | .app f ts, q, h => by
    rcases List.mem_cons.mp (show q ∈ [] :: posss 1 ts from h) with e | h
    · rw [e]; exact ⟨trivial, Tm.dep_pos (.app f ts)⟩
    · obtain ⟨j, t, r, rfl, ht, h1, h2⟩ := posss_is 1 ts q h
      have hm := Tm.dep_of_mem (List.mem_of_getElem? ht)
      refine ⟨⟨by omega, t, ?_, h1⟩, ?_⟩
      · have : (((1 + j : Nat) : Int) - 1).toNat = j := by omega
        rw [this]; exact ht
      · show r.length + 1 < 1 + Tm.deps ts
        omega
theorem posss_is : ∀ (k : Nat) (ts : List Tm) (q : List Int), q ∈ posss k ts → ∃ (j : Nat) (t : Tm) (r : List Int), q = ((k + j : Nat) : Int) :: r ∧ ts[j]? = some t ∧ IsPos r t ∧ r.length < t.dep
  | _, [], _, h => nomatch h
  | k, t :: ts, q, h => by
    rcases List.mem_append.mp (show q ∈ (poss t).map (fun q => (k : Int) :: q) ++ posss (k + 1) ts from h) with h | h
    · obtain ⟨r, hr, rfl⟩ := List.mem_map.mp h
      have := poss_is t r hr
      exact ⟨0, t, r, rfl, rfl, this.1, this.2⟩
    · obtain ⟨j, u, r, rfl, hu, h1, h2⟩ := posss_is (k + 1) ts q h
      exact ⟨j + 1, u, r, by rw [show k + 1 + j = k + (j + 1) by omega], by rw [List.getElem?_cons_succ]; exact hu, h1, h2⟩
end
mutual
theorem poss_len : ∀ t : Tm, (poss t).length = t.sz
  | .var _ => rfl
  | .app f ts => by show (posss 1 ts).length + 1 = 1 + Tm.szs ts; rw [posss_len 1 ts]; omega
theorem posss_len : ∀ (k : Nat) (ts : List Tm), (posss k ts).length = Tm.szs ts
  | _, [] => rfl
  | k, t :: ts => by
    show ((poss t).map (fun q => (k : Int) :: q) ++ posss (k + 1) ts).length = t.sz + Tm.szs ts
    rw [List.length_append, List.length_map, poss_len t, posss_len (k + 1) ts]
end
theorem posss_app : ∀ (a b : List Tm) (k : Nat), posss k (a ++ b) = posss k a ++ posss (k + a.length) b
  | [], _, _ => rfl
  | t :: ts, b, k => by
    show (poss t).map (fun q => (k : Int) :: q) ++ posss (k + 1) (ts ++ b) = ((poss t).map (fun q => (k : Int) :: q) ++ posss (k + 1) ts) ++ posss (k + (ts.length + 1)) b
    rw [posss_app ts b, List.append_assoc, show k + 1 + ts.length = k + (ts.length + 1) by omega]
/-- a list of tuples of ints -/
def PosIn (H : Hp) (p : Addr) (ps : List (List Int)) : Prop := ∃ as : List Addr, H p = some (.lst (as.map V.ref)) ∧ as.length = ps.length ∧ ∀ (k : Nat) (a : Addr) (q : List Int), as[k]? = some a → ps[k]? = some q → H a = some (.tup (q.map V.int))
theorem PosIn.get {H : Hp} {p : Addr} {ps : List (List Int)} (h : PosIn H p ps) {k : Nat} (hk : k < ps.length) : ∃ (xs : List V) (a : Addr) (q : List Int), H p = some (.lst xs) ∧ xs.length = ps.length ∧ xs[k]? = some (.ref a) ∧ ps[k]? = some q ∧ H a = some (.tup (q.map V.int)) := by
  obtain ⟨as, h1, h2, h3⟩ := h
  have hk' : k < as.length := by omega
  exact ⟨_, as[k], ps[k], h1, by rw [List.length_map, h2], by rw [List.getElem?_map, List.getElem?_eq_getElem hk']; rfl, List.getElem?_eq_getElem hk, h3 k _ _ (List.getElem?_eq_getElem hk') (List.getElem?_eq_getElem hk)⟩
theorem PosIn.mono {H H' : Hp} {p : Addr} {ps : List (List Int)} (h : PosIn H p ps) (t : Tu H H') (e : ∀ xs, H p = some (.lst xs) → H' p = some (.lst xs)) : PosIn H' p ps := by
  obtain ⟨as, h1, h2, h3⟩ := h
  exact ⟨as, e _ h1, h2, fun k a q ea eq => t _ _ (h3 k a q ea eq)⟩
theorem PosIn.same {H H' : Hp} {p : Addr} {ps : List (List Int)} (h : PosIn H p ps) (s : Same H H') : PosIn H' p ps := h.mono (tu_same s) fun _ e => s _ _ e
theorem PosIn.push {H H' : Hp} {p a : Addr} {ps : List (List Int)} {q : List Int} {as : List Addr} (h1 : H p = some (.lst (as.map V.ref))) (h2 : as.length = ps.length) (h3 : ∀ (k : Nat) (a : Addr) (q : List Int), as[k]? = some a → ps[k]? = some q → H a = some (.tup (q.map V.int)))
    (t : Tu H H') (e : H' p = some (.lst (as.map V.ref ++ [.ref a]))) (ha : H' a = some (.tup (q.map V.int))) : PosIn H' p (ps ++ [q]) := by
  refine ⟨as ++ [a], by rw [e, List.map_append]; rfl, by rw [List.length_append, List.length_append, h2]; rfl, fun k b r eb er => ?_⟩
  by_cases hk : k < as.length
  · rw [List.getElem?_append_left hk] at eb
    rw [List.getElem?_append_left (by omega)] at er
    exact t _ _ (h3 k b r eb er)
  · have h4 := (List.getElem?_eq_some_iff.mp eb).1
    rw [List.length_append, List.length_singleton] at h4
    have ek : k = as.length := by omega
    subst ek
    rw [List.getElem?_append_right (Nat.le_refl _), Nat.sub_self] at eb
    rw [List.getElem?_append_right (by omega), h2, Nat.sub_self] at er
    cases eb; cases er
    exact ha
theorem cutLo (vs : List V) (k : Nat) : cutV vs none (some (k : Int)) = vs.take k := by
  unfold cutV
  have e1 : HT.sIx vs.length 0 none = 0 := rfl
  rw [e1, HT.sIx_nat, List.drop_zero, Nat.sub_zero]
  by_cases h : k ≤ vs.length
  · rw [Nat.min_eq_left h]
  · rw [Nat.min_eq_right (by omega), List.take_of_length_le (Nat.le_refl _), List.take_of_length_le (by omega)]
theorem cutHi (vs : List V) (k : Nat) : cutV vs (some (k : Int)) none = vs.drop k := by
  unfold cutV
  have e1 : HT.sIx vs.length vs.length none = vs.length := rfl
  rw [e1, HT.sIx_nat]
  by_cases h : k ≤ vs.length
  · rw [Nat.min_eq_left h, List.take_of_length_le (by rw [List.length_drop]; exact Nat.le_refl _)]
  · rw [Nat.min_eq_right (by omega), List.drop_of_length_le (Nat.le_refl _), List.drop_of_length_le (by omega), List.take_nil]
theorem notLo {vs : List V} {k : Nat} (h : k < vs.length) : ¬ (HT.sIx vs.length 0 none = 0 ∧ HT.sIx vs.length vs.length (some (k : Int)) = vs.length) := fun z => by
  rw [HT.sIx_nat] at z
  have := z.2
  omega
theorem notHi {vs : List V} {k : Nat} (h : 1 ≤ k) (hv : 1 ≤ vs.length) : ¬ (HT.sIx vs.length 0 (some (k : Int)) = 0 ∧ HT.sIx vs.length vs.length none = vs.length) := fun z => by
  rw [HT.sIx_nat] at z
  have := z.1
  omega
theorem TmsIn.take {H : Hp} : ∀ {ts : List Tm} {vs : List V} (k : Nat), TmsIn H ts vs → TmsIn H (ts.take k) (vs.take k)
  | [], _, k, h => by cases (show _ = [] from h); cases k <;> rfl
  | _ :: _, _, 0, _ => rfl
  | t :: ts, _, k + 1, ⟨v, r, rfl, h, q⟩ => ⟨v, r.take k, rfl, h, TmsIn.take k q⟩
theorem TmsIn.drop {H : Hp} : ∀ {ts : List Tm} {vs : List V} (k : Nat), TmsIn H ts vs → TmsIn H (ts.drop k) (vs.drop k)
  | [], _, k, h => by cases (show _ = [] from h); cases k <;> rfl
  | _ :: _, _, 0, h => h
  | t :: ts, _, k + 1, ⟨v, r, rfl, h, q⟩ => TmsIn.drop k q
theorem set_cut {α : Type} {l : List α} {k : Nat} {x : α} (h : k < l.length) : l.set k x = l.take k ++ [x] ++ l.drop (k + 1) := by
  rw [List.set_eq_take_append_cons_drop, if_pos h, List.append_assoc]; rfl
/-- sizes and depths behind a replacement -/
theorem rep_dep (u : Tm) : ∀ (q : List Int) (t : Tm), IsPos q t → (rep u q t).dep ≤ max t.dep (q.length + u.dep) ∧ (rep u q t).sz ≤ t.sz + u.sz
  | [], t, _ => ⟨by show u.dep ≤ _; have := t.dep_pos; simp; omega, by show u.sz ≤ _; omega⟩
  | k :: q, .var n, h => h.elim
  | k :: q, .app f ts, ⟨h1, t, ht, hp⟩ => by
    have ih := rep_dep u q t hp
    have e : ts.getD (k - 1).toNat u = t := by rw [List.getD_eq_getElem?_getD, ht]; rfl
    have hk : (k - 1).toNat < ts.length := (List.getElem?_eq_some_iff.mp ht).1
    have hd : ∀ (l : List Tm) (j : Nat) (x : Tm) (M : Nat), Tm.deps l ≤ M → x.dep ≤ M → Tm.deps (l.set j x) ≤ M := by
      intro l
      induction l with
      | nil => intro j x M h _; exact h
      | cons a r ih =>
        intro j x M h hx
        have h : max a.dep (Tm.deps r) ≤ M := h
        cases j with
        | zero => show max x.dep (Tm.deps r) ≤ M; omega
        | succ j => show max a.dep (Tm.deps (r.set j x)) ≤ M; have := ih j x M (by omega) hx; omega
    have hs : ∀ (l : List Tm) (j : Nat) (x y : Tm), l[j]? = some y → Tm.szs (l.set j x) + y.sz = Tm.szs l + x.sz := by
      intro l
      induction l with
      | nil => intro j x y h; simp at h
      | cons a r ih =>
        intro j x y h
        cases j with
        | zero =>
          have h : a = y := by simpa using h
          subst h
          show x.sz + Tm.szs r + a.sz = a.sz + Tm.szs r + x.sz
          omega
        | succ j =>
          have := ih j x y (by simpa using h)
          show a.sz + Tm.szs (r.set j x) + y.sz = a.sz + Tm.szs r + x.sz
          omega
    have hm := Tm.dep_of_mem (List.mem_of_getElem? ht)
    refine ⟨?_, ?_⟩
    · show 1 + Tm.deps (ts.set (k - 1).toNat (rep u q (ts.getD (k - 1).toNat u))) ≤ max (1 + Tm.deps ts) (q.length + 1 + u.dep)
      rw [e]
      have := hd ts (k - 1).toNat (rep u q t) (max (Tm.deps ts) (q.length + u.dep)) (by omega) (by omega)
      omega
    · show 1 + Tm.szs (ts.set (k - 1).toNat (rep u q (ts.getD (k - 1).toNat u))) ≤ 1 + Tm.szs ts + u.sz
      rw [e]
      have := hs ts (k - 1).toNat (rep u q t) t ht
      omega
theorem at_cons_app {k : Int} {q : List Int} {f : Str} {ts : List Tm} : at? (k :: q) (.app f ts) = if 1 ≤ k then (ts[(k - 1).toNat]?).bind (at? q) else none := rfl
theorem at_app : ∀ (a b : List Int) (t : Tm), at? (a ++ b) t = (at? a t).bind (at? b)
  | [], _, _ => rfl
  | k :: a, b, .var _ => rfl
  | k :: a, b, .app f ts => by
    show at? (k :: (a ++ b)) (.app f ts) = _
    rw [at_cons_app, at_cons_app]
    by_cases h : 1 ≤ k
    · rw [if_pos h, if_pos h]
      cases ts[(k - 1).toNat]? with
      | none => rfl
      | some t => exact at_app a b t
    · rw [if_neg h, if_neg h]; rfl
theorem isPos_at : ∀ (q : List Int) (t : Tm), IsPos q t ↔ ∃ u, at? q t = some u
  | [], t => ⟨fun _ => ⟨t, rfl⟩, fun _ => trivial⟩
  | k :: q, .var _ => ⟨fun h => h.elim, fun ⟨_, h⟩ => nomatch h⟩
  | k :: q, .app f ts => by
    rw [at_cons_app]
    constructor
    · rintro ⟨h1, t, ht, hp⟩
      obtain ⟨u, hu⟩ := (isPos_at q t).mp hp
      exact ⟨u, by rw [if_pos h1, ht]; exact hu⟩
    · rintro ⟨u, hu⟩
      by_cases h : 1 ≤ k
      · rw [if_pos h] at hu
        cases e : ts[(k - 1).toNat]? with
        | none => rw [e] at hu; cases hu
        | some t => rw [e] at hu; exact ⟨h, t, e, (isPos_at q t).mpr ⟨u, hu⟩⟩
      · rw [if_neg h] at hu; cases hu
theorem isPos_app (a b : List Int) (t : Tm) : IsPos (a ++ b) t ↔ ∃ u, at? a t = some u ∧ IsPos b u := by
  rw [isPos_at, at_app]
  constructor
  · rintro ⟨w, hw⟩
    cases e : at? a t with
    | none => rw [e] at hw; cases hw
    | some u => rw [e] at hw; exact ⟨u, rfl, (isPos_at b u).mpr ⟨w, hw⟩⟩
  · rintro ⟨u, hu, hb⟩
    rw [hu]
    exact (isPos_at b u).mp hb
theorem isPos_take {q : List Int} {t : Tm} (h : IsPos q t) (i : Nat) : ∃ u, at? (q.take i) t = some u := by
  have := (isPos_app (q.take i) (q.drop i) t).mp (by rw [List.take_append_drop]; exact h)
  obtain ⟨u, hu, _⟩ := this
  exact ⟨u, hu⟩
/-- a child -/
theorem isPos_one {k : Int} {t : Tm} : IsPos [k] t ↔ ∃ f ts u, t = .app f ts ∧ 1 ≤ k ∧ ts[(k - 1).toNat]? = some u := by
  cases t with
  | var n => exact ⟨fun h => h.elim, fun ⟨_, _, _, h, _⟩ => nomatch h⟩
  | app f ts => exact ⟨fun ⟨h1, u, hu, _⟩ => ⟨f, ts, u, rfl, h1, hu⟩, fun ⟨_, _, u, e, h1, hu⟩ => by cases e; exact ⟨h1, u, hu, trivial⟩⟩
theorem at_step {q : List Int} {t w : Tm} {i : Nat} {k : Int} (hk : q[i]? = some k) (hw : at? (q.take i) t = some w) : at? (q.take (i + 1)) t = at? [k] w := by
  rw [list_take_succ hk, at_app, hw]; rfl
/-- put in, and take out -/
theorem at_rep (u : Tm) : ∀ (q : List Int) (t : Tm), IsPos q t → at? q (rep u q t) = some u
  | [], _, _ => rfl
  | k :: q, .var _, h => h.elim
  | k :: q, .app f ts, ⟨h1, t, ht, hp⟩ => by
    have hk := (List.getElem?_eq_some_iff.mp ht).1
    have e : ts.getD (k - 1).toNat u = t := by rw [List.getD_eq_getElem?_getD, ht]; rfl
    show at? (k :: q) (.app f (ts.set (k - 1).toNat (rep u q (ts.getD (k - 1).toNat u)))) = _
    rw [at_cons_app, if_pos h1, List.getElem?_set_self hk, e]
    exact at_rep u q t hp
theorem isPos_rep {u : Tm} {q : List Int} {t : Tm} (h : IsPos q t) : IsPos q (rep u q t) := (isPos_at q _).mpr ⟨u, at_rep u q t h⟩
theorem rep_back (u s : Tm) : ∀ (q : List Int) (t : Tm), at? q t = some s → rep s q (rep u q t) = t
  | [], t, h => (Option.some.inj h).symm
  | k :: q, .var _, h => nomatch h
  | k :: q, .app f ts, h => by
    rw [at_cons_app] at h
    by_cases h1 : 1 ≤ k
    · rw [if_pos h1] at h
      cases ht : ts[(k - 1).toNat]? with
      | none => rw [ht] at h; cases h
      | some t =>
        rw [ht] at h
        have hk := (List.getElem?_eq_some_iff.mp ht).1
        have e : ts.getD (k - 1).toNat u = t := by rw [List.getD_eq_getElem?_getD, ht]; rfl
        have ih := rep_back u s q t h
        show Tm.app f ((ts.set (k - 1).toNat (rep u q (ts.getD (k - 1).toNat u))).set (k - 1).toNat (rep s q ((ts.set (k - 1).toNat (rep u q (ts.getD (k - 1).toNat u))).getD (k - 1).toNat s))) = _
        have e2 : (ts.set (k - 1).toNat (rep u q (ts.getD (k - 1).toNat u))).getD (k - 1).toNat s = rep u q t := by
          rw [List.getD_eq_getElem?_getD, List.getElem?_set_self hk, e]; rfl
        rw [e2, ih, List.set_set, ← (List.getElem?_eq_some_iff.mp ht).2, List.set_getElem_self]
    · rw [if_neg h1] at h; cases h
theorem rep_step {u w c : Tm} {q : List Int} {k : Int} {i : Nat} {t : Tm} (hk : q[i]? = some k) (hw : at? (q.take i) t = some w) (hc : at? (q.take (i + 1)) t = some c) :
    ∃ f ts, w = .app f ts ∧ 1 ≤ k ∧ ts[(k - 1).toNat]? = some c ∧ rep u (q.drop i) w = .app f (ts.set (k - 1).toNat (rep u (q.drop (i + 1)) c)) := by
  rw [at_step hk hw] at hc
  obtain ⟨f, ts, c', rfl, h1, h2⟩ := isPos_one.mp ((isPos_at [k] w).mpr ⟨c, hc⟩)
  have hi := (List.getElem?_eq_some_iff.mp hk)
  rw [at_cons_app, if_pos h1, h2] at hc
  have hc : some c' = some c := hc
  cases hc
  refine ⟨f, ts, rfl, h1, h2, ?_⟩
  have e : q.drop i = k :: q.drop (i + 1) := by
    obtain ⟨hi, rfl⟩ := hi
    exact (List.drop_eq_getElem_cons hi)
  rw [e]
  show Tm.app f (ts.set (k - 1).toNat (rep u (q.drop (i + 1)) (ts.getD (k - 1).toNat u))) = _
  rw [List.getD_eq_getElem?_getD, h2]; rfl
theorem at_sz : ∀ (q : List Int) (t u : Tm), at? q t = some u → u.sz ≤ t.sz ∧ u.dep ≤ t.dep
  | [], t, u, h => by cases (show some t = some u from h); exact ⟨Nat.le_refl _, Nat.le_refl _⟩
  | k :: q, .var _, _, h => nomatch h
  | k :: q, .app f ts, u, h => by
    rw [at_cons_app] at h
    by_cases h1 : 1 ≤ k
    · rw [if_pos h1] at h
      cases ht : ts[(k - 1).toNat]? with
      | none => rw [ht] at h; cases h
      | some t =>
        rw [ht] at h
        have ih := at_sz q t u h
        have hm := List.mem_of_getElem? ht
        have h2 := Tm.dep_of_mem hm
        have h3 := Tm.sz_arg hm
        exact ⟨by show u.sz ≤ 1 + Tm.szs ts; omega, by show u.dep ≤ 1 + Tm.deps ts; omega⟩
    · rw [if_neg h1] at h; cases h
/-- pairs of a position and a term, on a stack -/
def PairIn (H : Hp) (v : V) (x : List Int × Tm) : Prop := ∃ (b c : Addr) (u : V), v = .ref b ∧ H b = some (.tup [.ref c, u]) ∧ H c = some (.tup (x.1.map V.int)) ∧ TmIn H x.2 u
def StkIn (H : Hp) (ws : List V) (S : List (List Int × Tm)) : Prop := ws.length = S.length ∧ ∀ (k : Nat) (v : V) (x : List Int × Tm), ws[k]? = some v → S[k]? = some x → PairIn H v x
theorem PairIn.tu {H H' : Hp} {v : V} {x : List Int × Tm} (h : PairIn H v x) (t : Tu H H') : PairIn H' v x := by
  obtain ⟨b, c, u, rfl, h1, h2, h3⟩ := h
  exact ⟨b, c, u, rfl, t _ _ h1, t _ _ h2, h3.tu t⟩
theorem StkIn.tu {H H' : Hp} {ws : List V} {S : List (List Int × Tm)} (h : StkIn H ws S) (t : Tu H H') : StkIn H' ws S := ⟨h.1, fun k v x e1 e2 => (h.2 k v x e1 e2).tu t⟩
theorem StkIn.snoc {H : Hp} {ws : List V} {S : List (List Int × Tm)} (h : StkIn H ws S) {v : V} {x : List Int × Tm} (hv : PairIn H v x) : StkIn H (ws ++ [v]) (S ++ [x]) := by
  refine ⟨by rw [List.length_append, List.length_append, h.1]; rfl, fun k u y e1 e2 => ?_⟩
  by_cases hk : k < ws.length
  · rw [List.getElem?_append_left hk] at e1
    rw [List.getElem?_append_left (by have := h.1; omega)] at e2
    exact h.2 k u y e1 e2
  · have h4 := (List.getElem?_eq_some_iff.mp e1).1
    rw [List.length_append, List.length_singleton] at h4
    have ek : k = ws.length := by omega
    subst ek
    rw [List.getElem?_append_right (Nat.le_refl _), Nat.sub_self] at e1
    rw [List.getElem?_append_right (by have := h.1; omega), h.1, Nat.sub_self] at e2
    cases e1; cases e2
    exact hv
theorem StkIn.pop {H : Hp} {ws : List V} {S : List (List Int × Tm)} (h : StkIn H ws S) (n : ws ≠ []) : ∃ v S' x, ws[ws.length - 1]? = some v ∧ S = S' ++ [x] ∧ PairIn H v x ∧ StkIn H ws.dropLast S' := by
  have l := h.1
  have hw : 0 < ws.length := List.length_pos_iff.mpr n
  have hS : S ≠ [] := fun z => by rw [z] at l; simp at l; exact n l
  obtain ⟨S', x, rfl⟩ : ∃ S' x, S = S' ++ [x] := ⟨S.dropLast, S.getLast hS, (List.dropLast_concat_getLast hS).symm⟩
  rw [List.length_append, List.length_singleton] at l
  have hl : ws.length - 1 < ws.length := by omega
  have e1 := List.getElem?_eq_getElem hl
  refine ⟨_, S', x, e1, rfl, h.2 _ _ x e1 (by rw [List.getElem?_append_right (by omega), show ws.length - 1 - S'.length = 0 by omega]; rfl), by rw [List.length_dropLast]; omega, fun k v y g1 g2 => ?_⟩
  rw [List.getElem?_dropLast] at g1
  by_cases hk : k < ws.length - 1
  · rw [if_pos hk] at g1
    exact h.2 k v y g1 (by rw [List.getElem?_append_left (by omega)]; exact g2)
  · rw [if_neg hk] at g1; cases g1
def posOf : List (List Int × Tm) → List (List Int)
  | [] => []
  | x :: r => (poss x.2).map (fun z => x.1 ++ z) ++ posOf r
def kids (q : List Int) : Nat → List Tm → List (List Int × Tm)
  | _, [] => []
  | k, t :: ts => (q ++ [(k : Int)], t) :: kids q (k + 1) ts
def szOf (S : List (List Int × Tm)) : Nat := (S.map fun x => x.2.sz).sum
theorem posOf_app (a b : List (List Int × Tm)) : posOf (a ++ b) = posOf a ++ posOf b := by
  induction a with
  | nil => rfl
  | cons x a ih => show (poss x.2).map (fun z => x.1 ++ z) ++ posOf (a ++ b) = _; rw [ih, ← List.append_assoc]; rfl
theorem posOf_len (a : List (List Int × Tm)) : (posOf a).length = szOf a := by
  induction a with
  | nil => rfl
  | cons x a ih => show ((poss x.2).map (fun z => x.1 ++ z) ++ posOf a).length = x.2.sz + szOf a; rw [List.length_append, List.length_map, poss_len, ih]
theorem szOf_app (a b : List (List Int × Tm)) : szOf (a ++ b) = szOf a + szOf b := by unfold szOf; rw [List.map_append, List.sum_append]
theorem szOf_rev (a : List (List Int × Tm)) : szOf a.reverse = szOf a := by
  induction a with
  | nil => rfl
  | cons x a ih =>
    rw [List.reverse_cons, szOf_app, ih]
    show szOf a + (x.2.sz + 0) = x.2.sz + szOf a
    omega
theorem len_szOf (a : List (List Int × Tm)) : a.length ≤ szOf a := by
  induction a with
  | nil => exact Nat.le_refl _
  | cons x a ih => have := x.2.sz_pos; show a.length + 1 ≤ x.2.sz + szOf a; omega
theorem posOf_kids (q : List Int) : ∀ (ts : List Tm) (k : Nat), posOf (kids q k ts) = (posss k ts).map (fun z => q ++ z)
  | [], _ => rfl
  | t :: ts, k => by
    show (poss t).map (fun z => (q ++ [(k : Int)]) ++ z) ++ posOf (kids q (k + 1) ts) = ((poss t).map (fun z => (k : Int) :: z) ++ posss (k + 1) ts).map (fun z => q ++ z)
    rw [posOf_kids q ts, List.map_append, List.map_map]
    congr 1
    refine List.map_congr_left fun z _ => ?_
    show (q ++ [(k : Int)]) ++ z = q ++ ((k : Int) :: z)
    rw [List.append_assoc]; rfl
theorem kids_len (q : List Int) : ∀ (ts : List Tm) (k : Nat), (kids q k ts).length = ts.length
  | [], _ => rfl
  | _ :: ts, k => congrArg (· + 1) (kids_len q ts (k + 1))
theorem kids_get (q : List Int) : ∀ (ts : List Tm) (k i : Nat) (t : Tm), ts[i]? = some t → (kids q k ts)[i]? = some (q ++ [((k + i : Nat) : Int)], t)
  | [], _, _, _, h => by simp at h
  | _ :: _, k, 0, _, h => by cases h; rfl
  | _ :: ts, k, i + 1, t, h => by
    have := kids_get q ts (k + 1) i t h
    rw [show k + 1 + i = k + (i + 1) by omega] at this
    exact this
theorem kids_sz (q : List Int) : ∀ (ts : List Tm) (k : Nat), szOf (kids q k ts) = Tm.szs ts
  | [], _ => rfl
  | t :: ts, k => by show t.sz + szOf (kids q (k + 1) ts) = t.sz + Tm.szs ts; rw [kids_sz q ts]
theorem rep_wf {fs : List Str} {B : Int} {u : Tm} (wu : u.wf fs B) : ∀ (q : List Int) (t : Tm), t.wf fs B → IsPos q t → (rep u q t).wf fs B
  | [], _, _, _ => wu
  | _ :: _, .var _, _, h => h.elim
  | k :: q, .app f ts, w, ⟨h1, t, ht, hp⟩ => by
    obtain ⟨⟨i, i1, i2⟩, w⟩ := (show (∃ k, fs[k]? = some f ∧ ts.length = ar k) ∧ Tm.wfs fs B ts from w)
    have e : ts.getD (k - 1).toNat u = t := by rw [List.getD_eq_getElem?_getD, ht]; rfl
    have ih := rep_wf wu q t (Tm.wf_of_mem w (List.mem_of_getElem? ht)) hp
    show (∃ k', fs[k']? = some f ∧ (ts.set (k - 1).toNat (rep u q (ts.getD (k - 1).toNat u))).length = ar k') ∧ Tm.wfs fs B (ts.set (k - 1).toNat (rep u q (ts.getD (k - 1).toNat u)))
    rw [e]
    refine ⟨⟨i, i1, by rw [List.length_set]; exact i2⟩, Tm.wfs_of fun x hx => ?_⟩
    rcases List.mem_or_eq_of_mem_set hx with h | h
    · exact Tm.wf_of_mem w h
    · rw [h]; exact ih
end J

/-! ### canonical forms -/
namespace J
open PySem L2
/-- the place of n in u, counted from k -/
def ix : Nat → List Int → Int → Option Nat
  | _, [], _ => none
  | k, a :: r, n => if a = n then some k else ix (k + 1) r n
/-- the dict that numbers u from k on -/
def knf : Nat → List Int → List (Key × V)
  | _, [] => []
  | k, a :: r => (.inl a, .int (k : Int)) :: knf (k + 1) r
def rnm (u : List Int) : Int → Option Tm := fun n => (ix 0 u n).map fun (k : Nat) => Tm.var (k : Int)
theorem knf_val : ∀ (u : List Int) (k : Nat) (n : Int), valV (knf k u) (.inl n) = (ix k u n).map fun (j : Nat) => V.int (j : Int)
  | [], _, _ => rfl
  | a :: r, k, n => by
    by_cases h : a = n
    · subst h
      show valV (((.inl a : Key), V.int (k : Int)) :: knf (k + 1) r) (.inl a) = (if a = a then some k else _).map _
      rw [if_pos rfl]
      exact valV_pos (p := ((.inl a : Key), V.int (k : Int))) rfl
    · have e : ¬ ((Sum.inl a : Key) = .inl n) := fun z => h (Sum.inl.inj z)
      show valV (((.inl a : Key), V.int (k : Int)) :: knf (k + 1) r) (.inl n) = (if a = n then some k else ix (k + 1) r n).map _
      rw [if_neg h, valV_neg e, knf_val r]
theorem knf_len : ∀ (u : List Int) (k : Nat), (knf k u).length = u.length
  | [], _ => rfl
  | _ :: r, k => by show (knf (k + 1) r).length + 1 = r.length + 1; rw [knf_len r]
theorem ix_none : ∀ (u : List Int) (k : Nat) (n : Int), ix k u n = none ↔ n ∉ u
  | [], _, n => by show none = none ↔ _; simp
  | a :: r, k, n => by
    show (if a = n then some k else ix (k + 1) r n) = none ↔ _
    by_cases h : a = n
    · rw [if_pos h]; subst h; simp
    · rw [if_neg h, ix_none r, List.mem_cons, not_or]
      exact ⟨fun z => ⟨fun w => h w.symm, z⟩, fun z => z.2⟩
theorem knf_snoc : ∀ (u : List Int) (k : Nat) (n : Int), knf k (u ++ [n]) = knf k u ++ [(.inl n, .int ((k + u.length : Nat) : Int))]
  | [], _, _ => rfl
  | a :: r, k, n => by
    show ((.inl a : Key), V.int (k : Int)) :: knf (k + 1) (r ++ [n]) = ((.inl a : Key), V.int (k : Int)) :: (knf (k + 1) r ++ _)
    rw [knf_snoc r, show k + 1 + r.length = k + (a :: r).length by rw [List.length_cons]; omega]
theorem knf_put {u : List Int} {n : Int} (h : n ∉ u) : putK (knf 0 u) (.inl n) (.int (u.length : Int)) = knf 0 (u ++ [n]) := by
  rw [putK_new _ (by rw [knf_val, (ix_none u 0 n).mpr h]; rfl), knf_snoc, Nat.zero_add]
theorem rnm_in {H : Hp} {d : Addr} {u : List Int} (h : H d = some (.dK (knf 0 u))) : SbIn H d (rnm u) := by
  refine ⟨_, h, fun n => ?_⟩
  unfold rnm
  rw [knf_val]
  cases ix 0 u n with
  | none => rfl
  | some k => exact ⟨_, rfl, rfl⟩
def both (l r : Tm) : List Int := adds [] (vars l ++ vars r)
def canon (l r : Tm) : Tm × Tm := (sub (rnm (both l r)) l, sub (rnm (both l r)) r)
/-- variables renamed by g -/
def ren (g : Int → Int) (t : Tm) : Tm := sub (fun n => some (.var (g n))) t
theorem vars_mem (t : Tm) (n : Int) : n ∈ vars t ↔ n ∈ occ t := by
  unfold vars
  rw [adds_mem]
  simp
theorem both_mem (l r : Tm) (n : Int) : n ∈ both l r ↔ n ∈ occ l ∨ n ∈ occ r := by
  unfold both
  rw [adds_mem, List.mem_append, vars_mem, vars_mem]
  simp
theorem both_occ (l r : Tm) : both l r = adds [] (occ l ++ occ r) := by
  unfold both vars
  rw [adds_app, adds_app, adds_two, adds_two]
  rfl
mutual
theorem occ_sub (m : Int → Option Tm) (g : Int → Int) : ∀ t : Tm, (∀ n ∈ occ t, m n = some (.var (g n))) → occ (sub m t) = (occ t).map g
  | .var n, h => by
    show occ ((m n).getD (.var n)) = _
    rw [h n (List.mem_singleton.mpr rfl)]; rfl
  | .app f ts, h => by show occs (subs m ts) = (occs ts).map g; exact occs_sub m g ts h
theorem occs_sub (m : Int → Option Tm) (g : Int → Int) : ∀ ts : List Tm, (∀ n ∈ occs ts, m n = some (.var (g n))) → occs (subs m ts) = (occs ts).map g
  | [], _ => rfl
  | t :: ts, h => by
    show occ (sub m t) ++ occs (subs m ts) = (occ t ++ occs ts).map g
    rw [occ_sub m g t fun n hn => h n (List.mem_append.mpr (.inl hn)), occs_sub m g ts fun n hn => h n (List.mem_append.mpr (.inr hn)), List.map_append]
end
theorem adds_map (g : Int → Int) : ∀ (l acc : List Int), (∀ a ∈ acc ++ l, ∀ b ∈ acc ++ l, g a = g b → a = b) → adds (acc.map g) (l.map g) = (adds acc l).map g
  | [], _, _ => rfl
  | n :: r, acc, inj => by
    show adds (if g n ∈ acc.map g then acc.map g else acc.map g ++ [g n]) (r.map g) = (adds (if n ∈ acc then acc else acc ++ [n]) r).map g
    by_cases h : n ∈ acc
    · rw [if_pos h, if_pos (List.mem_map.mpr ⟨n, h, rfl⟩)]
      exact adds_map g r acc fun a ha b hb => inj a (by simp at ha ⊢; rcases ha with z | z <;> simp [z]) b (by simp at hb ⊢; rcases hb with z | z <;> simp [z])
    · have h2 : g n ∉ acc.map g := fun z => by
        obtain ⟨a, ha, e⟩ := List.mem_map.mp z
        have := inj a (List.mem_append.mpr (.inl ha)) n (by simp) e
        exact h (this ▸ ha)
      rw [if_neg h, if_neg h2]
      have e : acc.map g ++ [g n] = (acc ++ [n]).map g := by rw [List.map_append]; rfl
      rw [e]
      exact adds_map g r (acc ++ [n]) fun a ha b hb => inj a (by rw [List.append_assoc] at ha; exact ha) b (by rw [List.append_assoc] at hb; exact hb)
theorem ix_map (g : Int → Int) : ∀ (u : List Int) (k : Nat) (n : Int), (∀ a ∈ u, g a = g n → a = n) → ix k (u.map g) (g n) = ix k u n
  | [], _, _, _ => rfl
  | a :: r, k, n, inj => by
    show (if g a = g n then some k else ix (k + 1) (r.map g) (g n)) = (if a = n then some k else ix (k + 1) r n)
    by_cases h : a = n
    · rw [if_pos h, if_pos (by rw [h])]
    · rw [if_neg h, if_neg fun z => h (inj a (List.mem_cons_self ..) z)]
      exact ix_map g r (k + 1) n fun b hb => inj b (List.mem_cons_of_mem _ hb)
mutual
theorem sub_ren (m m' : Int → Option Tm) (g : Int → Int) (v : Int → Option Tm) : ∀ t : Tm, (∀ n ∈ occ t, v n = some (.var (g n)) ∧ ((m' (g n)).getD (.var (g n))) = ((m n).getD (.var n))) → sub m' (sub v t) = sub m t
  | .var n, h => by
    obtain ⟨h1, h2⟩ := h n (List.mem_singleton.mpr rfl)
    show sub m' ((v n).getD (.var n)) = (m n).getD (.var n)
    rw [h1, ← h2]; rfl
  | .app f ts, h => by show Tm.app f (subs m' (subs v ts)) = .app f (subs m ts); rw [subs_ren m m' g v ts h]
theorem subs_ren (m m' : Int → Option Tm) (g : Int → Int) (v : Int → Option Tm) : ∀ ts : List Tm, (∀ n ∈ occs ts, v n = some (.var (g n)) ∧ ((m' (g n)).getD (.var (g n))) = ((m n).getD (.var n))) → subs m' (subs v ts) = subs m ts
  | [], _ => rfl
  | t :: ts, h => by
    show sub m' (sub v t) :: subs m' (subs v ts) = sub m t :: subs m ts
    rw [sub_ren m m' g v t fun n hn => h n (List.mem_append.mpr (.inl hn)), subs_ren m m' g v ts fun n hn => h n (List.mem_append.mpr (.inr hn))]
end
/-- renaming does not change the canonical form -/
theorem canon_ren {l r : Tm} (v : Int → Option Tm) (g : Int → Int) (hv : ∀ n, n ∈ occ l ∨ n ∈ occ r → v n = some (.var (g n)))
    (inj : ∀ a b, (a ∈ occ l ∨ a ∈ occ r) → (b ∈ occ l ∨ b ∈ occ r) → g a = g b → a = b) : canon (sub v l) (sub v r) = canon l r := by
  have e : both (sub v l) (sub v r) = (both l r).map g := by
    rw [both_occ, both_occ, occ_sub v g l fun n hn => hv n (.inl hn), occ_sub v g r fun n hn => hv n (.inr hn), ← List.map_append]
    exact adds_map g _ [] fun a ha b hb => inj a b (List.mem_append.mp ha) (List.mem_append.mp hb)
  unfold canon
  rw [e]
  have key : ∀ n, n ∈ occ l ∨ n ∈ occ r → ((rnm ((both l r).map g) (g n)).getD (.var (g n))) = ((rnm (both l r) n).getD (.var n)) := by
    intro n hn
    unfold rnm
    rw [ix_map g _ 0 n fun a ha => inj a n ((both_mem l r a).mp ha) hn]
    cases h : ix 0 (both l r) n with
    | none => exact absurd ((both_mem l r n).mpr hn) ((ix_none _ _ _).mp h)
    | some k => rfl
  rw [sub_ren (rnm (both l r)) _ g v l fun n hn => ⟨hv n (.inl hn), key n (.inl hn)⟩, sub_ren (rnm (both l r)) _ g v r fun n hn => ⟨hv n (.inr hn), key n (.inr hn)⟩]
theorem ix_lt : ∀ (u : List Int) (k : Nat) (n : Int) (j : Nat), ix k u n = some j → k ≤ j ∧ u[j - k]? = some n
  | [], _, _, _, h => nomatch h
  | a :: r, k, n, j, h => by
    have h : (if a = n then some k else ix (k + 1) r n) = some j := h
    by_cases e : a = n
    · rw [if_pos e] at h; cases h
      exact ⟨Nat.le_refl _, by rw [Nat.sub_self, e]; rfl⟩
    · rw [if_neg e] at h
      have := ix_lt r (k + 1) n j h
      refine ⟨by omega, ?_⟩
      rw [show j - k = (j - (k + 1)) + 1 by omega, List.getElem?_cons_succ]
      exact this.2
theorem canon_twice (l r : Tm) : canon (canon l r).1 (canon l r).2 = canon l r := by
  let g : Int → Int := fun n => match ix 0 (both l r) n with | some k => (k : Int) | none => n
  have some_of : ∀ n, n ∈ occ l ∨ n ∈ occ r → ∃ k, ix 0 (both l r) n = some k := fun n hn => by
    cases h : ix 0 (both l r) n with
    | none => exact absurd ((both_mem l r n).mpr hn) ((ix_none _ _ _).mp h)
    | some k => exact ⟨k, rfl⟩
  refine canon_ren (rnm (both l r)) g (fun n hn => ?_) fun a b ha hb e => ?_
  · obtain ⟨k, hk⟩ := some_of n hn
    show (ix 0 (both l r) n).map (fun (k : Nat) => Tm.var (k : Int)) = some (Tm.var (match ix 0 (both l r) n with | some k => (k : Int) | none => n))
    rw [hk]; rfl
  · obtain ⟨k, hk⟩ := some_of a ha
    obtain ⟨j, hj⟩ := some_of b hb
    have e : (match ix 0 (both l r) a with | some k => (k : Int) | none => a) = (match ix 0 (both l r) b with | some k => (k : Int) | none => b) := e
    rw [hk, hj] at e
    have e : (k : Int) = (j : Int) := e
    have h1 := (ix_lt _ _ _ _ hk).2
    have h2 := (ix_lt _ _ _ _ hj).2
    have : k = j := by omega
    rw [this] at h1
    rw [h1] at h2
    exact Option.some.inj h2
mutual
theorem sz_sub_var (m : Int → Option Tm) (hm : ∀ n t, m n = some t → t.sz = 1 ∧ t.dep = 1) : ∀ t : Tm, (sub m t).sz = t.sz ∧ (sub m t).dep = t.dep
  | .var n => by
    show ((m n).getD (.var n)).sz = 1 ∧ ((m n).getD (.var n)).dep = 1
    cases h : m n with
    | none => exact ⟨rfl, rfl⟩
    | some t => exact hm n t h
  | .app f ts => by
    have := szs_sub_var m hm ts
    exact ⟨by show 1 + Tm.szs (subs m ts) = 1 + Tm.szs ts; rw [this.1], by show 1 + Tm.deps (subs m ts) = 1 + Tm.deps ts; rw [this.2]⟩
theorem szs_sub_var (m : Int → Option Tm) (hm : ∀ n t, m n = some t → t.sz = 1 ∧ t.dep = 1) : ∀ ts : List Tm, Tm.szs (subs m ts) = Tm.szs ts ∧ Tm.deps (subs m ts) = Tm.deps ts
  | [] => ⟨rfl, rfl⟩
  | t :: ts => by
    have h1 := sz_sub_var m hm t
    have h2 := szs_sub_var m hm ts
    exact ⟨by show (sub m t).sz + Tm.szs (subs m ts) = t.sz + Tm.szs ts; rw [h1.1, h2.1], by show max (sub m t).dep (Tm.deps (subs m ts)) = max t.dep (Tm.deps ts); rw [h1.2, h2.2]⟩
end
theorem rnm_var (u : List Int) (n : Int) (t : Tm) (h : rnm u n = some t) : t.sz = 1 ∧ t.dep = 1 := by
  unfold rnm at h
  cases e : ix 0 u n with
  | none => rw [e] at h; cases h
  | some k => rw [e] at h; cases h; exact ⟨rfl, rfl⟩
mutual
theorem occ_wf {fs : List Str} {B : Int} : ∀ t : Tm, t.wf fs B → ∀ n ∈ occ t, 0 ≤ n ∧ n < B
  | .var k, w, n, h => by rw [List.mem_singleton.mp h]; exact w
  | .app f ts, w, n, h => occs_wf ts w.2 n h
theorem occs_wf {fs : List Str} {B : Int} : ∀ ts : List Tm, Tm.wfs fs B ts → ∀ n ∈ occs ts, 0 ≤ n ∧ n < B
  | [], _, _, h => nomatch h
  | t :: ts, w, n, h => by
    rcases List.mem_append.mp (show n ∈ occ t ++ occs ts from h) with h | h
    · exact occ_wf t w.1 n h
    · exact occs_wf ts w.2 n h
end
end J

/-! ### errors of the program's own classes -/
namespace J
open PySem L2 PyProof.Rows
def veB : List Value := [.type "ValueError", .type "Exception", .type "BaseException", .type "object"]
/-- an error class without an __init__ of its own -/
structure ErrC (K : PySem.W.Frag) (mg : Str → Option Value) (x : Str) (C : Addr) : Prop where
  gC : mg x = some (.ref C)
  kC : PySem.W.keepIn K (.ref C) = true
  xC : PySem.W.excIn K C [.type "ValueError", .type "Exception", .type "BaseException", .type "object"] "ValueError.__new__" = true
  bC : PySem.W.subIn K (.ref C) (.type "BaseException") = some true
  tC : PySem.W.typeIn K (.ref C) = some (.type "type")
  eC : PySem.W.exmOne K (.ref C) (.ref C) = some true
  dC : ExcC K C
theorem err_mk {K : PySem.W.Frag} {h : Heap} {mg : Str → Option Value} {x : Str} {C : Addr} (X : K.In h) (G : h.Ns mainGlobals mg)
    (a : PySem.W.nsIn K mainGlobals x = some (some (.ref C))) (k : PySem.W.keepIn K (.ref C) = true) (e : PySem.W.excIn K C [.type "ValueError", .type "Exception", .type "BaseException", .type "object"] "ValueError.__new__" = true)
    (b : PySem.W.subIn K (.ref C) (.type "BaseException") = some true) (t : PySem.W.typeIn K (.ref C) = some (.type "type")) (s : PySem.W.subIn K (.ref C) (.ref C) = some true)
    (hg : PySem.W.findIn K (.ref C) "__getattribute__" = some (some (.builtin "BaseException.__getattribute__"))) (hk : PySem.W.findIn K (.ref C) "__getattr__" = some none) (hd : PySem.W.hasDictIn K C = true)
    (ha : PySem.W.findIn K (.ref C) "__class__" = some (some (.builtin "object.__class__"))) (hn : PySem.W.specialIn K (.builtin "object.__class__") "__get__" = some (some (.builtin "getset_descriptor.__get__")))
    (ht : PySem.W.takesIn K (.builtin "object.__class__") = some true) (hm : PySem.W.mroIn K C (.type "object") = some true) : ErrC K mg x C :=
  ⟨PySem.W.mg_of X G a, k, e, b, t, PySem.W.exm_ref b hd t s, ⟨hg, hk, b, hd, ha, hn, ht, hm⟩⟩
section
variable {X : Cx} {C : Addr} {bmB : List Value} {B newId initId : String}
/-- X() -/
theorem pmk_own0 {x : Str} {p pos : Pos} (F : ExcBaseFacts B newId initId bmB) (q : PySem.W.excIn X.K C bmB newId = true) (gC : X.mg x = some (.ref C)) (kC : PySem.W.keepIn X.K (.ref C) = true) (r : Raises X (.ref C)) (hg : Gl X x)
    (hdb : (x == ("__debug__" : Str)) = false := by decide) : PMk X (.Call (.Name x p) [] [] pos) (fun _ H Q => Q (.ref C) none H) := by
  intro pins s σ H Q I h
  refine wpAny_Call_Name_kw (ld_glob I hg gC ?_ hdb)
  refine PySem.W.callWith_K0 I.kIn kC ?_
  show wpAny _ _ (call (.ref C) []) _ _ _
  obtain ⟨bm, N, nm, qn, bs, hdct, sn, sub, ab, col, dd, k0, k1, k2, k3, k5, mN, hC, hN, hni, T⟩ := exc_obj I.kIn q
  refine wpAny_call_exc_subT F T hC hN hni (fun h' e hm => ?_) (by show 0 ≤ sizeLine; omega)
  exact mk_of I hm r h (I.hok.gone hm.new)
theorem pss_assume {p : Prop} {sts : List Stmt} {t : TS} (h : p → PSs X sts t) : PSs X sts (fun D σ H => p ∧ t D σ H) := ⟨fun pins s σ H D I ⟨hp, q⟩ => (h hp).run pins s σ H D I q⟩
/-- a call that lets nothing out -/
theorem no_raise {X : Cx} (σ : L2.St) : PassesAt (L2.CX X.prog X.w) X σ (fun _ _ _ => False) := fun _ _ _ _ _ _ c => by
  obtain ⟨_, _, _, _, _, _, _, _, _, _, _, _, h⟩ := c
  exact h.elim
end
end J

/-! ### range(i, j, -1) in a for -/
namespace J
open PySem L2
theorem down_ok {n : Nat} (h : n ≤ 1000000) : RgC ((n : Int) - 1) (-1) (-1) n := by
  have := RgC.neg (i := (n : Int) - 1) (j := -1) (by omega) (by omega) (by decide) (by decide)
  have e : ((n : Int) - 1 - (-1)).toNat = n := by omega
  rw [e] at this
  exact this
theorem down0_ok {n : Nat} (h : n ≤ 1000000) : RgC (n : Int) 0 (-1) n := by
  have := RgC.neg (i := (n : Int)) (j := 0) (by omega) (by omega) (by decide) (by decide)
  have e : ((n : Int) - 0).toNat = n := by omega
  rw [e] at this
  exact this
theorem catA {K : PySem.W.Frag} {H : Hp} {a b : Addr} {xs ys : List V} {Q : VK} (ha : H a = some (.tup xs)) (hb : H b = some (.tup ys)) (hy : ys ≠ []) (hl : xs.length + ys.length ≤ sizeLine) (k : ∀ p H', Same H H' → H' p = some (.tup (xs ++ ys)) → Q (.ref p) H') : rCatA K (.ref a) (.ref b) H Q := by
  refine ⟨a, b, xs, ys, rfl, rfl, SqT.of ha, SqT.of hb, hl, fun z => ?_, fun _ z => absurd z hy, fun _ _ p hp => ?_⟩
  · refine k b H (Same.refl _) ?_
    rw [z]; exact hb
  · exact k p _ (al_same hp rfl) upd_same
/-- the slots, written out anew -/
theorem at_state {t : TS} {D : Ends} {σ σ' : L2.St} {H : Hp} (e : σ = σ') (h : t D σ' H) : t D σ H := e ▸ h
theorem catB {K : PySem.W.Frag} {H : Hp} {a b : Addr} {xs ys : List V} {Q : VK} (ha : H a = some (.tup xs)) (hb : H b = some (.tup ys)) (hl : xs.length + ys.length ≤ sizeLine) (k : ∀ p H', Same H H' → H' p = some (.tup (xs ++ ys)) → Q (.ref p) H') : rCatA K (.ref a) (.ref b) H Q := by
  refine ⟨a, b, xs, ys, rfl, rfl, SqT.of ha, SqT.of hb, hl, fun z => ?_, fun _ z => ?_, fun _ _ p hp => ?_⟩
  · refine k b H (Same.refl _) ?_
    rw [z]; exact hb
  · refine k a H (Same.refl _) ?_
    rw [z, List.append_nil]; exact ha
  · exact k p _ (al_same hp rfl) upd_same
end J

/-! ### errors of the program's own classes that have an __init__ -/
namespace J
open PySem L2 PyProof.Rows
/-- an error class whose __init__ is the def at f -/
structure ErrI (K : PySem.W.Frag) (mg : Str → Option Value) (x : Str) (C f : Addr) : Prop where
  gC : mg x = some (.ref C)
  kC : PySem.W.keepIn K (.ref C) = true
  bC : PySem.W.subIn K (.ref C) (.type "BaseException") = some true
  tC : PySem.W.typeIn K (.ref C) = some (.type "type")
  eC : PySem.W.exmOne K (.ref C) (.ref C) = some true
  dC : ExcC K C
  oC : OexC K C
  xC : XfC K C
  iC : PySem.W.findIn K (.ref C) "__init__" = some (some (.ref f))
  tI : PySem.W.typeIn K (.ref f) = some (.type "function")
theorem erri_mk {K : PySem.W.Frag} {h : Heap} {mg : Str → Option Value} {x : Str} {C f : Addr} (X : K.In h) (G : h.Ns mainGlobals mg)
    (a : PySem.W.nsIn K mainGlobals x = some (some (.ref C))) (k : PySem.W.keepIn K (.ref C) = true)
    (o : ∃ nm q N bs bm sn sub ab col dd k0 k1 k2 k3 k5, K.lookup C = some (excClassObj nm q C N bs bm true sn sub ab col dd k0 k1 k2 k3 k5 "ValueError.__new__") ∧ PySem.HandSPX.refsVE bm = true)
    (sa : PySem.W.findIn K (.ref C) "__setattr__" = some (some (.builtin "object.__setattr__")))
    (b : PySem.W.subIn K (.ref C) (.type "BaseException") = some true) (t : PySem.W.typeIn K (.ref C) = some (.type "type")) (s : PySem.W.subIn K (.ref C) (.ref C) = some true)
    (hg : PySem.W.findIn K (.ref C) "__getattribute__" = some (some (.builtin "BaseException.__getattribute__"))) (hk : PySem.W.findIn K (.ref C) "__getattr__" = some none) (hd : PySem.W.hasDictIn K C = true)
    (ha : PySem.W.findIn K (.ref C) "__class__" = some (some (.builtin "object.__class__"))) (hn : PySem.W.specialIn K (.builtin "object.__class__") "__get__" = some (some (.builtin "getset_descriptor.__get__")))
    (ht : PySem.W.takesIn K (.builtin "object.__class__") = some true) (hm : PySem.W.mroIn K C (.type "object") = some true)
    (i : PySem.W.findIn K (.ref C) "__init__" = some (some (.ref f))) (ti : PySem.W.typeIn K (.ref f) = some (.type "function")) : ErrI K mg x C f :=
  ⟨PySem.W.mg_of X G a, k, b, t, PySem.W.exm_ref b hd t s, ⟨hg, hk, b, hd, ha, hn, ht, hm⟩, ⟨o, sa, b, t, k⟩, ⟨hg, hk, b, hd⟩, i, ti⟩
/-- isinstance(e, c), e the exception of the class D that the suite holds, its fields at d -/
def rIsED (K : PySem.W.Frag) (D a : Addr) (d : Option Addr) : List V → Hp → VK → Prop := fun xs H Q => ∃ (c : V) (cv : Value) (b : Bool) (dd : Addr) (fs : List (Str × V)), xs = [.ref a, c] ∧ (∀ u, RelV c u → u = cv) ∧ PySem.W.kitOne K (.ref D) cv = some b ∧ d = some dd ∧ H dd = some (.xd fs) ∧ Q (.bl b) H
theorem call_isED {X : Cx} {a D : Addr} {d : Option Addr} {oe : Obj} {pn : List (Addr × Obj)} (C : ExcC X.K D) (hz : Zc (.ref D) d oe) (hf : ∃ vs, oe.data = .fields vs) : CallR (X.suite a ((a, oe) :: pn)) (.builtin "isinstance") (rIsED X.K D a d) := by
  intro pins s σ H xs us Q I r h
  obtain ⟨c, cv, b, dd, fs, rfl, hcv, e, ed, hx, q⟩ := h
  subst ed
  match us, r with
  | [ur, uc], .cons rx (.cons rt .nil) =>
    cases (show ur = Value.ref a from rx)
    cases hcv _ rt
    obtain ⟨hget, _⟩ := I.pin (a, oe) (List.mem_append.mpr (.inl List.mem_cons_self))
    obtain ⟨mA, hns, _⟩ := (show ObjOk X.prog X.w H s.heap dd (.xd fs) from I.hok dd _ hx)
    obtain ⟨od, ho, _⟩ := lookIn_ns hns
    obtain ⟨vs, hv⟩ := hf
    have J : PySem.W.InstAt s.heap a oe D (some od) := ⟨hget, hz.1, by unfold PySem.W.notCls; rw [hv], by rw [hz.2]; exact ho⟩
    have cl : (PySem.W.clsIn X.K D).isSome = true := by
      obtain ⟨cd, hc, _⟩ := PySem.W.any_some C.hd
      rw [hc]; rfl
    exact PySem.W.kia_one (PySem.W.kitx_exc cl C.hg C.hk C.hs C.ha C.hn C.ht C.hm) I.kIn J e (fun z => nomatch z) fun tk => ⟨.bl b, H, I.kept (t' := tk) fun _ _ z => z, rfl, q⟩
end J

/-! ### repr of data; a promise that holds while no repr is under way -/
namespace J
open PySem PySem.Spec PyProof.Rows L2
section
variable {P : Program} {w : World} {K : PySem.W.Frag} {mg : Str → Option Value} {base : Heap}
/-- the promise of a def, asked for only where nothing is being shown -/
structure Quiet (P : Program) (w : World) (K : PySem.W.Frag) (mg : Str → Option Value) (base : Heap) (k : Nat) (f : Addr) (fd : FuncData) (ps : List Str) (sp : Sp) : Prop where
  len : ∀ vs H Q E, sp vs H Q E → vs.length = ps.length
  run : ∀ (A : Around) (outer : List Env) (s : Shared) (H : Hp) (args : Args) (us : List Value) (vs : List V) (Q : VK) (E : XK), A.guards = some [] → Room k A → Env0 P w K mg base A outer s H → BindsTo s fd args (ps.zip us) → Vals vs us →
    sp vs H Q E → codeAny (model P w) A (.call (.ref f) args) (CR CX0 outer P w H s Q E) s
theorem quiet_of {x qual : Str} {st : Stmt} {f : Addr} {fd : FuncData} {N ps : List Str} {k : Nat} {sp : Sp} (F : Fun K x qual st f fd) (S : FnScope N ps (defScope st)) (len : ∀ vs H Q E, sp vs H Q E → vs.length = ps.length)
    (hbody : ∀ (cdv : Value) (A : Around) (outer : List Env) (s : Shared) (H : Hp) (vs : List V) (Q : VK) (E : XK), A.guards = some [] → Room k (A.deeper (envOfC qual (defScope st) s.heap.objs.size f cdv)) → sp vs H Q E →
      ∃ t, PSs (cxOf CX0 P w K mg base N qual (defScope st) f cdv A outer s H E).nox (defBody st) t ∧ t { nx := fun _ H' => Q .non H', rt := Q } (start N vs) H) : Quiet P w K mg base (k + 1) f fd ps sp := by
  obtain ⟨oc, od, kV, doc, pm, an, cdv, ct, osl, rfl, lk, hcd⟩ := F.ex
  refine ⟨len, fun A outer s H args us vs Q E hg hr e0 hb rv hsp => ?_⟩
  obtain ⟨t, ht, hq⟩ := hbody cdv A outer s H vs Q E hg (hr.deeper _) hsp
  have KX : K.In s.heap := e0.mod.kin.keeps fun b o e => (e0.bs b o e).1
  have par : ∀ y ∈ ps.zip us, (defScope st).names.lookup y.1 = some .local ∨ ((defScope st).names.lookup y.1 = some .cell ∧ ((cellsFrom (s.heap.objs.size + 1) (defScope st).names []).lookup y.1).isSome = true) := fun y hy =>
    (S.par y.1 (List.of_mem_zip (a := y.1) (b := y.2) hy).1).imp id fun q => ⟨q, PySem.W.cellsFrom_some _ _ _ (.inl q)⟩
  refine codeAny_call_function hr.depth (KX _ _ lk) rfl S.co S.gen rfl (PySem.W.codeRec_of KX hcd) (hb _ _ _ _ (wpAny_newFunctionEnv_cells S.kind par fun env he s1 x => ?_))
  subst he
  refine ⟨(e0.mod.nolimit.keeps fun b o e => (e0.bs b o e).1).keeps x.toInCall.keep, codeAny_func ?_⟩
  refine wpAny_mono (ht.nox.run [] s1 (start N vs) H _ (inv_start S hr.hd e0 (len _ _ _ _ hsp) rv x) hq) (fun fl s' hs => ?_) fun e s' hs => hs
  match fl, hs with
  | .ret u, ⟨v, σ', H', J, r, q⟩ => exact ⟨v, H', J.os, J.bare, J.base, J.hok, r, q⟩
  | .next, ⟨σ', H', J, q⟩ => exact ⟨.non, H', J.os, J.bare, J.base, J.hok, rfl, q⟩
  | .brk, ⟨_, _, _, q⟩ => exact q.elim
  | .cont, ⟨_, _, _, q⟩ => exact q.elim
end
section
variable {X : Cx} {k : Nat} {f : Addr} {fd : FuncData} {ps : List Str} {sp : Sp}
theorem quiet_run {pins : List (Addr × Obj)} {σ : L2.St} {H : Hp} {s : Shared} {Q : VK} {us : List Value} {vs : List V} (F : Quiet X.prog X.w X.K X.mg X.base k f fd ps sp) (hq : X.A.guards = some []) (hr : Room k X.A) (hb : Binds X.K fd ps [])
    (I : Inv X pins σ H s) (r : Vals vs us) (h : sp (vs ++ []) H Q E0) : wpAny (model X.prog X.w) X.A (call (.ref f) us) (EP X pins σ Q) X.xe s := by
  have r2 : Vals (vs ++ []) (us ++ []) := r.append .nil
  refine wpAny_call (codeAny_mono (F.run X.A X.stack s H ⟨us, []⟩ (us ++ []) (vs ++ []) Q E0 hq hr I.env0 (hb s us I.kIn (by rw [← r2.length]; exact F.len _ _ _ _ h)) r2 h) fun r s' z => ?_)
  match r, z with
  | .error _, z => exact z.elim
  | .ok (.ret u), z => exact I.after z
  | .ok .next, z => exact z.elim
  | .ok .brk, z => exact z.elim
  | .ok .cont, z => exact z.elim
theorem pe_callQ {x : Str} {p pos : Pos} {e : Expr} {es : List Expr} {t : TA} (F : Quiet X.prog X.w X.K X.mg X.base k f fd ps sp) (hq : X.A.guards = some []) (hr : Room k X.A) (hg : Gl X x) (hm : X.mg x = some (.ref f)) (hk : PySem.W.keepIn X.K (.ref f) = true) (hb : Binds X.K fd ps [])
    (ha : PA X (e :: es) t) (hdb : (x == ("__debug__" : Str)) = false := by decide) (he : starEach (e :: es) X.env = (false, eval e X.env) :: starEach es X.env := by rfl) (hpl : (backTo pos (starEach es X.env)).any (·.1) = false := by rfl) :
    PE X (.Call (.Name x p) (e :: es) [] pos) (tCall sp [] E0 t) :=
  ⟨fun pins s σ H Q I h => wpAny_Call_Name_kw (ld_glob I hg hm (PySem.W.callWith_K (h₀ := X.base) I.ok.mod.kin hk (thn (ha.run pos pins s σ H _ I h) fun us s1 ⟨vs, H1, I1, r, q⟩ => ⟨I1.kIn, quiet_run F hq hr hb I1 r q⟩) he hpl) hdb)⟩
/-- repr of lists and tuples -/
def rShow (X : Cx) : List V → Hp → VK → Prop := fun xs H Q => X.A.guards = some [] ∧ ∃ a d, xs = [.ref a] ∧ Dp X.K H (.ref a) d ∧ d.showable = true ∧ d.hasDict = false ∧ d.depth ≤ 60 ∧ d.shown.length ≤ sizeLine ∧ Q (.str d.shown) H
theorem call_show (hu : X.A.units + 64 < cLine) : CallR X (.builtin "repr") (rShow X) := by
  intro pins s σ H xs us Q I r h
  obtain ⟨hg, a, d, rfl, hd, hs, hn, hp, hz, q⟩ := h
  cases r with
  | cons r rr =>
    cases rr
    cases r
    obtain ⟨as, rd⟩ := Dp.reads I d _ _ hd rfl
    exact repr_of_reads' rd hs (fun z => by rw [hn] at z; cases z) hg (by omega) (fun _ _ e => e) (fun h' u tk hk => ⟨.str d.shown, H, I.kept hk, ⟨u, rfl⟩, q⟩) hz
end
end J

/-! ### data that may be shown -/
namespace J
open PySem L2
structure Shw (D B : Nat) (d : PyData) : Prop where
  sh : d.showable = true
  nd : d.hasDict = false
  dp : d.depth ≤ D
  ln : d.shown.length ≤ B
theorem Shw.mono {D B D' B' : Nat} {d : PyData} (h : Shw D B d) (h1 : D ≤ D') (h2 : B ≤ B') : Shw D' B' d := ⟨h.sh, h.nd, Nat.le_trans h.dp h1, Nat.le_trans h.ln h2⟩
theorem shw_all {D B : Nat} : ∀ {ds : List PyData}, (∀ d ∈ ds, Shw D B d) → PyData.showableAll ds = true ∧ PyData.hasDictAll ds = false ∧ PyData.depthAll ds ≤ D ∧ ((PyData.shownAll ds).map (·.length)).sum ≤ B * ds.length ∧ (PyData.shownAll ds).length = ds.length
  | [], _ => ⟨rfl, rfl, Nat.zero_le _, Nat.zero_le _, rfl⟩
  | d :: ds, h => by
    obtain ⟨a, b, c, e, f⟩ := shw_all fun x hx => h x (List.mem_cons_of_mem _ hx)
    obtain ⟨h1, h2, h3, h4⟩ := h d (List.mem_cons_self ..)
    refine ⟨by show (d.showable && PyData.showableAll ds) = true; rw [h1, a]; rfl, by show (d.hasDict || PyData.hasDictAll ds) = false; rw [h2, b]; rfl, by show max d.depth (PyData.depthAll ds) ≤ D; omega, ?_, congrArg (· + 1) f⟩
    show d.shown.length + ((PyData.shownAll ds).map (·.length)).sum ≤ B * (ds.length + 1)
    rw [Nat.mul_add, Nat.mul_one]; omega
theorem shw_list {D B : Nat} {ds : List PyData} (h : ∀ d ∈ ds, Shw D B d) : Shw (D + 1) ((B + 2) * ds.length + 3) (.list ds) := by
  obtain ⟨a, b, c, e, f⟩ := shw_all h
  refine ⟨a, b, Nat.succ_le_succ c, ?_⟩
  have := listText_len_le (PyData.shownAll ds)
  rw [f] at this
  refine Nat.le_trans this ?_
  rw [Nat.add_mul]; omega
theorem shw_tuple {D B : Nat} {ds : List PyData} (h : ∀ d ∈ ds, Shw D B d) : Shw (D + 1) ((B + 2) * ds.length + 3) (.tuple ds) := by
  obtain ⟨a, b, c, e, f⟩ := shw_all h
  refine ⟨a, b, Nat.succ_le_succ c, ?_⟩
  have := tupleText_len_le (PyData.shownAll ds)
  rw [f] at this
  refine Nat.le_trans this ?_
  rw [Nat.add_mul]; omega
theorem log_of_lt {n k : Nat} (h : n < 2 ^ k) (hk : 0 < k) : n.log2 < k := by
  by_cases z : n = 0
  · subst z; exact hk
  · exact (Nat.log2_lt z).mpr h
theorem shw_int {i : Int} (h : i.natAbs < 10 ^ 12) : Shw 0 13 (.int i) := by
  refine ⟨?_, rfl, Nat.le_refl _, PyData.shown_int_le h⟩
  show decide (i.natAbs.log2 < 1920) = true
  refine decide_eq_true (Nat.lt_trans (log_of_lt (k := 40) (Nat.lt_trans h (by decide)) (by decide)) (by decide))
theorem shw_str {x : Str} (h : ∀ c ∈ x.cps.toList, c < 16 ^ 8) : Shw 0 (10 * x.length + 2) (.str x) := ⟨rfl, rfl, Nat.le_refl _, StrLaws.reprText_len x h⟩
theorem dp_ints {K : PySem.W.Frag} {H : Hp} : ∀ q : List Int, DpAll K H (q.map V.int) (q.map PyData.int)
  | [] => .nil
  | _ :: q => .cons (.int _) (dp_ints q)
theorem dp_all {K : PySem.W.Frag} {H : Hp} : ∀ {vs : List V} {ds : List PyData}, vs.length = ds.length → (∀ (k : Nat) v d, vs[k]? = some v → ds[k]? = some d → Dp K H v d) → DpAll K H vs ds
  | [], [], _, _ => .nil
  | [], _ :: _, h, _ => nomatch h
  | _ :: _, [], h, _ => nomatch h
  | v :: vs, d :: ds, h, f => .cons (f 0 v d rfl rfl) (dp_all (Nat.succ.inj h) fun k v d e1 e2 => f (k + 1) v d e1 e2)
end J

/-! ### repr of a table of terms -/
namespace J
open PySem PySem.Spec PyProof.Rows L2
mutual
def tmD : Tm → PyData
  | .var n => .int n
  | .app f ts => .tuple (.str f :: tmDs ts)
def tmDs : List Tm → List PyData
  | [] => []
  | t :: ts => tmD t :: tmDs ts
end
/-- the table at its entries, in their order -/
def TbIn (H : Hp) : List (Key × V) → List (Int × Tm) → Prop
  | [], [] => True
  | kv :: r, x :: l => kv.1 = .inl x.1 ∧ TmIn H x.2 kv.2 ∧ TbIn H r l
  | _, _ => False
def tbD (l : List (Int × Tm)) : PyData := .dict (l.map fun x => (.int x.1, tmD x.2))
section
variable {X : Cx} {pins : List (Addr × Obj)} {σ : L2.St} {H : Hp} {s : Shared}
mutual
theorem tm_reads (I : Inv X pins σ H s) : ∀ (t : Tm) (v : V) (u : Value), TmIn H t v → RelV v u → Reads s.heap u (tmD t) []
  | .var n, v, u, h, r => by
    cases (show v = .int n from h)
    obtain ⟨t, rfl⟩ := r
    exact Reads.int n t
  | .app f ts, v, u, h, r => by
    obtain ⟨a, vs, rfl, ha, hts⟩ := h
    cases (show u = .ref a from r)
    obtain ⟨its, rv, ⟨o, e, hc, n, hd⟩, _⟩ := I.tuple (SqT.of ha)
    refine Reads.tuple e hc hd ?_
    cases rv with
    | cons r1 rr =>
      obtain ⟨tk, rfl⟩ := r1
      exact ReadsAll.cons (as := []) (Reads.str f tk) (tms_reads I ts vs _ hts rr)
theorem tms_reads (I : Inv X pins σ H s) : ∀ (ts : List Tm) (vs : List V) (us : List Value), TmsIn H ts vs → Vals vs us → ReadsAll s.heap us (tmDs ts) []
  | [], vs, us, h, r => by
    cases (show vs = [] from h)
    cases r
    exact ReadsAll.nil
  | t :: ts, vs, us, h, r => by
    obtain ⟨v, w, rfl, h1, h2⟩ := h
    cases r with
    | cons r1 rr => exact ReadsAll.cons (as := []) (tm_reads I t v _ h1 r1) (tms_reads I ts w _ h2 rr)
end
end
mutual
theorem tmD_shw {fs : List Str} {B : Int} (hn : Names fs) (hB : B ≤ 1000) : ∀ t : Tm, t.wf fs B → (tmD t).showable = true ∧ (tmD t).hasDict = false ∧ (tmD t).depth ≤ t.dep ∧ (tmD t).shown.length + 10 ≤ 90 * t.sz
  | .var n, w => by
    have w : 0 ≤ n ∧ n < B := w
    have h := shw_int (i := n) (Nat.lt_trans (show n.natAbs < 10000 by omega) (by decide))
    have := h.ln
    exact ⟨h.sh, h.nd, Nat.zero_le _, by show (PyData.int n).shown.length + 10 ≤ 90 * 1; omega⟩
  | .app f ts, w => by
    obtain ⟨⟨k, hk, _⟩, w⟩ := (show (∃ k, fs[k]? = some f ∧ ts.length = ar k) ∧ Tm.wfs fs B ts from w)
    have hf := List.mem_of_getElem? hk
    have h1 := hn.hi f hf
    have h2 := shw_str (x := f) fun c hc => Nat.lt_of_le_of_lt (hn.low f hf c hc).2 (by decide)
    obtain ⟨a, b, c, d, e⟩ := tmDs_shw hn hB ts w
    refine ⟨by show ((PyData.str f).showable && PyData.showableAll (tmDs ts)) = true; rw [h2.sh, a]; rfl, by show ((PyData.str f).hasDict || PyData.hasDictAll (tmDs ts)) = false; rw [h2.nd, b]; rfl, ?_, ?_⟩
    · show max (PyData.str f).depth (PyData.depthAll (tmDs ts)) + 1 ≤ 1 + Tm.deps ts
      have : (PyData.str f).depth = 0 := rfl
      omega
    · have h3 := tupleText_len_le (PyData.shownAll (.str f :: tmDs ts))
      have h4 := h2.ln
      have e1 : ((PyData.shownAll (.str f :: tmDs ts)).map (·.length)).sum = (PyData.str f).shown.length + ((PyData.shownAll (tmDs ts)).map (·.length)).sum := rfl
      have e2 : (PyData.shownAll (.str f :: tmDs ts)).length = (PyData.shownAll (tmDs ts)).length + 1 := rfl
      show (tupleText (PyData.shownAll (.str f :: tmDs ts))).length + 10 ≤ 90 * (1 + Tm.szs ts)
      omega
theorem tmDs_shw {fs : List Str} {B : Int} (hn : Names fs) (hB : B ≤ 1000) : ∀ ts : List Tm, Tm.wfs fs B ts → PyData.showableAll (tmDs ts) = true ∧ PyData.hasDictAll (tmDs ts) = false ∧ PyData.depthAll (tmDs ts) ≤ Tm.deps ts ∧ ((PyData.shownAll (tmDs ts)).map (·.length)).sum + 10 * ts.length ≤ 90 * Tm.szs ts ∧ (PyData.shownAll (tmDs ts)).length = ts.length
  | [], _ => ⟨rfl, rfl, Nat.zero_le _, Nat.zero_le _, rfl⟩
  | t :: ts, w => by
    obtain ⟨a, b, c, d⟩ := tmD_shw hn hB t w.1
    obtain ⟨a', b', c', d', e'⟩ := tmDs_shw hn hB ts w.2
    refine ⟨by show ((tmD t).showable && PyData.showableAll (tmDs ts)) = true; rw [a, a']; rfl, by show ((tmD t).hasDict || PyData.hasDictAll (tmDs ts)) = false; rw [b, b']; rfl, ?_, ?_, congrArg (· + 1) e'⟩
    · show max (tmD t).depth (PyData.depthAll (tmDs ts)) ≤ max t.dep (Tm.deps ts); omega
    · show (tmD t).shown.length + ((PyData.shownAll (tmDs ts)).map (·.length)).sum + 10 * (ts.length + 1) ≤ 90 * (t.sz + Tm.szs ts)
      omega
end
theorem tbD_shw {fs : List Str} {B : Int} (hn : Names fs) (hB : B ≤ 1000) : ∀ l : List (Int × Tm), (∀ x ∈ l, x.1.natAbs < 10000 ∧ x.2.wf fs B ∧ x.2.sz ≤ 1000 ∧ x.2.dep ≤ 50) →
    PyData.showableKv (l.map fun x => (PyData.int x.1, tmD x.2)) = true ∧ PyData.depthKv (l.map fun x => (PyData.int x.1, tmD x.2)) ≤ 50 ∧ ((PyData.shownKv (l.map fun x => (PyData.int x.1, tmD x.2))).map (·.length)).sum ≤ 90100 * l.length ∧ (PyData.shownKv (l.map fun x => (PyData.int x.1, tmD x.2))).length = l.length
  | [], _ => ⟨rfl, Nat.zero_le _, Nat.zero_le _, rfl⟩
  | x :: l, h => by
    obtain ⟨a, b, c, d⟩ := tbD_shw hn hB l fun y hy => h y (List.mem_cons_of_mem _ hy)
    obtain ⟨h1, h2, h3, h4⟩ := h x (List.mem_cons_self ..)
    have hi := shw_int (i := x.1) (Nat.lt_trans h1 (by decide))
    obtain ⟨s1, _, s3, s4⟩ := tmD_shw hn hB x.2 h2
    refine ⟨by show ((PyData.int x.1).showable && (tmD x.2).showable && PyData.showableKv _) = true; rw [hi.sh, s1, a]; rfl, ?_, ?_, congrArg (· + 1) d⟩
    · show max (max (PyData.int x.1).depth (tmD x.2).depth) (PyData.depthKv _) ≤ 50
      have : (PyData.int x.1).depth = 0 := rfl
      omega
    · show ((PyData.int x.1).shown ++ ": " ++ (tmD x.2).shown).length + ((PyData.shownKv (l.map fun x => (PyData.int x.1, tmD x.2))).map (·.length)).sum ≤ 90100 * (l.length + 1)
      rw [len_app, len_app]
      have e : (": " : Str).length = 2 := by decide +kernel
      have := hi.ln
      omega
theorem TbIn.length {H : Hp} : ∀ {kvs : List (Key × V)} {l : List (Int × Tm)}, TbIn H kvs l → kvs.length = l.length
  | [], [], _ => rfl
  | [], _ :: _, h => h.elim
  | _ :: _, [], h => h.elim
  | _ :: _, _ :: _, h => congrArg (· + 1) (TbIn.length h.2.2)
theorem TbIn.tu {H H' : Hp} (t : Tu H H') : ∀ {kvs : List (Key × V)} {l : List (Int × Tm)}, TbIn H kvs l → TbIn H' kvs l
  | [], [], _ => trivial
  | [], _ :: _, h => h.elim
  | _ :: _, [], h => h.elim
  | _ :: _, _ :: _, h => ⟨h.1, h.2.1.tu t, TbIn.tu t h.2.2⟩
theorem TbIn.snoc {H : Hp} {n : Int} {t : Tm} {v : V} (ht : TmIn H t v) : ∀ {kvs : List (Key × V)} {l : List (Int × Tm)}, TbIn H kvs l → TbIn H (kvs ++ [(.inl n, v)]) (l ++ [(n, t)])
  | [], [], _ => ⟨rfl, ht, trivial⟩
  | [], _ :: _, h => h.elim
  | _ :: _, [], h => h.elim
  | _ :: _, _ :: _, h => ⟨h.1, h.2.1, TbIn.snoc ht h.2.2⟩
def look : List (Int × Tm) → Int → Option Tm
  | [], _ => none
  | x :: l, n => if x.1 = n then some x.2 else look l n
theorem TbIn.val {H : Hp} (n : Int) : ∀ {kvs : List (Key × V)} {l : List (Int × Tm)}, TbIn H kvs l → match look l n with
    | none => valV kvs (.inl n) = none
    | some t => ∃ v, valV kvs (.inl n) = some v ∧ TmIn H t v
  | [], [], _ => rfl
  | [], _ :: _, h => h.elim
  | _ :: _, [], h => h.elim
  | kv :: r, x :: l, h => by
    by_cases e : x.1 = n
    · rw [show look (x :: l) n = some x.2 from if_pos e]
      exact ⟨kv.2, valV_pos (by rw [h.1, e]), h.2.1⟩
    · rw [show look (x :: l) n = look l n from if_neg e, valV_neg (by rw [h.1]; exact fun z => e (Sum.inl.inj z))]
      exact TbIn.val n h.2.2
theorem TbIn.sb {H : Hp} {d : Addr} {kvs : List (Key × V)} {l : List (Int × Tm)} (h : H d = some (.dK kvs)) (t : TbIn H kvs l) : SbIn H d (look l) := ⟨kvs, h, fun n => t.val n⟩
theorem look_mem {n : Int} {t : Tm} : ∀ {l : List (Int × Tm)}, look l n = some t → (n, t) ∈ l
  | [], h => nomatch h
  | x :: l, h => by
    by_cases e : x.1 = n
    · rw [show look (x :: l) n = some x.2 from if_pos e] at h
      cases h
      rw [← e]; exact List.mem_cons_self ..
    · rw [show look (x :: l) n = look l n from if_neg e] at h
      exact List.mem_cons_of_mem _ (look_mem h)
theorem look_none {n : Int} : ∀ {l : List (Int × Tm)}, (∀ x ∈ l, x.1 ≠ n) → look l n = none
  | [], _ => rfl
  | x :: l, h => by
    rw [show look (x :: l) n = look l n from if_neg (h x (List.mem_cons_self ..))]
    exact look_none fun y hy => h y (List.mem_cons_of_mem _ hy)
section
variable {X : Cx} {pins : List (Addr × Obj)} {σ : L2.St} {H : Hp} {s : Shared}
theorem tb_keys (h : Heap) : ∀ {kvs : List (Key × V)} {l : List (Int × Tm)} {vs : List (Key × Value)} {es : List DictEntry} {P : Program} {w : World}, TbIn H kvs l → KV kvs vs → Pairs (mixKind P w) es vs → ReadsAll h (es.map (·.key)) ((l.map fun x => (PyData.int x.1, tmD x.2)).map (·.1)) []
  | [], [], _, _, _, _, _, k, p => by
    cases k; cases p
    exact ReadsAll.nil
  | [], _ :: _, _, _, _, _, h, _, _ => h.elim
  | _ :: _, [], _, _, _, _, h, _, _ => h.elim
  | kv :: r, x :: l, _, _, _, _, ⟨e, _, h2⟩, k, p => by
    cases k with
    | cons k1 kr =>
      cases p with
      | cons p1 p2 pr =>
        have p1 : keyIs _ _ = true := p1
        rw [← k1.1, e] at p1
        rcases keyIs_shape p1 with ⟨i, t, e1, e2⟩ | ⟨y, t, e1, _⟩
        · cases e1
          refine ReadsAll.cons (as := []) ?_ (tb_keys h h2 kr pr)
          show Reads h (DictEntry.key _) _ _
          rw [e2]
          exact Reads.int _ t
        · cases e1
theorem tb_vals (I : Inv X pins σ H s) : ∀ {kvs : List (Key × V)} {l : List (Int × Tm)} {vs : List (Key × Value)} {es : List DictEntry} {P : Program} {w : World}, TbIn H kvs l → KV kvs vs → Pairs (mixKind P w) es vs → ReadsAll s.heap (es.map (·.val)) ((l.map fun x => (PyData.int x.1, tmD x.2)).map (·.2)) []
  | [], [], _, _, _, _, _, k, p => by
    cases k; cases p
    exact ReadsAll.nil
  | [], _ :: _, _, _, _, _, h, _, _ => h.elim
  | _ :: _, [], _, _, _, _, h, _, _ => h.elim
  | kv :: r, x :: l, _, _, _, _, ⟨_, h1, h2⟩, k, p => by
    cases k with
    | cons k1 kr =>
      cases p with
      | cons p1 p2 pr =>
        refine ReadsAll.cons (as := []) ?_ (tb_vals I h2 kr pr)
        show Reads s.heap (DictEntry.val _) _ _
        rw [p2]
        exact tm_reads I _ _ _ h1 k1.2
/-- repr of a table -/
def rShowT (X : Cx) : List V → Hp → VK → Prop := fun xs H Q => X.A.guards = some [] ∧ ∃ a kvs l fs, ∃ B : Int, xs = [.ref a] ∧ H a = some (.dK kvs) ∧ TbIn H kvs l ∧ Names fs ∧ B ≤ 1000 ∧ (∀ x ∈ l, x.1.natAbs < 10000 ∧ x.2.wf fs B ∧ x.2.sz ≤ 1000 ∧ x.2.dep ≤ 50) ∧ l.length ≤ 30 ∧ Q (.str (tbD l).shown) H
theorem call_showT (hu : X.A.units + 64 < cLine) : CallR X (.builtin "repr") (rShowT X) := by
  intro pins s σ H xs us Q I r h
  obtain ⟨hg, a, kvs, l, fs, B, rfl, ha, ht, hn, hB, hl, hz, q⟩ := h
  obtain ⟨a1, a2, a3, a4⟩ := tbD_shw hn hB l hl
  cases r with
  | cons r rr =>
    cases rr
    cases r
    obtain ⟨_, hS, vs, k, o, es, ep, e, ⟨hc, _, _⟩, hd, _, pr, _⟩ := dk_of I.hok ha
    have rd : Reads s.heap (.ref a) (tbD l) (a :: [] ++ []) := Reads.dict e hc hd (tb_keys s.heap ht k pr) (tb_vals I ht k pr)
    have hln : (tbD l).shown.length ≤ sizeLine := by
      refine Nat.le_trans (dictText_len_le _) (Nat.le_trans (show _ ≤ 3000000 from ?_) (by decide))
      rw [a4]; omega
    have hdp : (tbD l).depth ≤ 51 := Nat.succ_le_succ a2
    refine repr_of_reads' rd a1 (fun _ z => ?_) hg (by omega) (fun _ _ e => e) (fun h' u tk hk => ⟨.str (tbD l).shown, H, I.kept hk, ⟨u, rfl⟩, q⟩) hln
    rcases List.mem_cons.mp z with z | z
    · rw [← z, beq_self_eq_true] at hS; cases hS
    · cases z
end
end J

/-! ### < and > of data; equality of terms; the order of terms -/
namespace J
open PySem PySem.Spec PyProof.Rows L2
section
variable {X : Cx}
def rCmpD (K : PySem.W.Frag) (g : PyData → PyData → Bool) : R2 := fun x y H Q => ∃ d e, Dp K H x d ∧ Dp K H y e ∧ PySem.W.alike d e = true ∧ d ≠ .none ∧ d.depth ≤ 60 ∧ Q (.bl (g d e)) H
theorem op_ltD (hu : X.A.units + 64 < cLine) : OpR X (compareOp .Lt) (rCmpD X.K fun d e => PySem.W.dataLt d e) := by
  intro pins s σ H x y v u Q I rx ry h
  obtain ⟨d, e, hd, he, al, nn, dp, q⟩ := h
  obtain ⟨as, r1⟩ := Dp.reads I d x v hd rx
  obtain ⟨bs, r2⟩ := Dp.reads I e y u he ry
  exact PySem.W.lt_data r1 r2 al nn (by have := Nat.min_le_left d.depth e.depth; omega) ⟨.bl _, H, I, rfl, q⟩
theorem op_gtD (hu : X.A.units + 64 < cLine) : OpR X (compareOp .Gt) (rCmpD X.K fun d e => PySem.W.dataLt e d) := by
  intro pins s σ H x y v u Q I rx ry h
  obtain ⟨d, e, hd, he, al, nn, dp, q⟩ := h
  obtain ⟨as, r1⟩ := Dp.reads I d x v hd rx
  obtain ⟨bs, r2⟩ := Dp.reads I e y u he ry
  exact PySem.W.gt_data r1 r2 al nn (by have := Nat.min_le_left d.depth e.depth; omega) ⟨.bl _, H, I, rfl, q⟩
end
/-! terms as data -/
mutual
theorem tmD_eqv : ∀ a b : Tm, PyData.eqv (tmD a) (tmD b) = true ↔ a = b
  | .var i, .var j => by
    show (i == j) = true ↔ _
    rw [beq_iff_eq]
    exact ⟨fun e => by rw [e], fun e => by injection e⟩
  | .var _, .app _ _ => ⟨fun h => (nomatch (show false = true from h)), fun h => nomatch h⟩
  | .app _ _, .var _ => ⟨fun h => (nomatch (show false = true from h)), fun h => nomatch h⟩
  | .app f ts, .app g us => by
    show ((f == g) && PyData.eqvAll (tmDs ts) (tmDs us)) = true ↔ _
    rw [Bool.and_eq_true, beq_iff_eq, tmDs_eqv ts us]
    exact ⟨fun ⟨a, b⟩ => by rw [a, b], fun e => by injection e with a b; exact ⟨a, b⟩⟩
theorem tmDs_eqv : ∀ a b : List Tm, PyData.eqvAll (tmDs a) (tmDs b) = true ↔ a = b
  | [], [] => ⟨fun _ => rfl, fun _ => rfl⟩
  | [], _ :: _ => ⟨fun h => (nomatch (show false = true from h)), fun h => nomatch h⟩
  | _ :: _, [] => ⟨fun h => (nomatch (show false = true from h)), fun h => nomatch h⟩
  | t :: ts, u :: us => by
    show (PyData.eqv (tmD t) (tmD u) && PyData.eqvAll (tmDs ts) (tmDs us)) = true ↔ _
    rw [Bool.and_eq_true, tmD_eqv t u, tmDs_eqv ts us]
    exact ⟨fun ⟨a, b⟩ => by rw [a, b], fun e => by injection e with a b; exact ⟨a, b⟩⟩
end
mutual
theorem tmD_dp {K : PySem.W.Frag} {H : Hp} : ∀ (t : Tm) (v : V), TmIn H t v → Dp K H v (tmD t)
  | .var n, v, h => by cases (show v = .int n from h); exact .int n
  | .app f ts, v, h => by
    obtain ⟨a, vs, rfl, ha, hts⟩ := h
    exact .tup (SqT.of ha) (.cons (.str f) (tmDs_dp ts vs hts))
theorem tmDs_dp {K : PySem.W.Frag} {H : Hp} : ∀ (ts : List Tm) (vs : List V), TmsIn H ts vs → DpAll K H vs (tmDs ts)
  | [], vs, h => by cases (show vs = [] from h); exact .nil
  | t :: ts, vs, h => by
    obtain ⟨v, w, rfl, h1, h2⟩ := h
    exact .cons (tmD_dp t v h1) (tmDs_dp ts w h2)
end
theorem low_ok {x : Str} (h : Low x) : PyData.strOk x = true := by
  unfold PyData.strOk
  rw [← Array.all_toList, List.all_eq_true]
  intro c hc
  have := h c hc
  exact decide_eq_true (by omega)
mutual
theorem tmD_lay {fs : List Str} (hn : Names fs) {B : Int} : ∀ t : Tm, t.wf fs B → (tmD t).canLay0 = true ∧ (tmD t).depth ≤ t.dep
  | .var n, _ => ⟨rfl, Nat.zero_le _⟩
  | .app f ts, w => by
    obtain ⟨⟨k, hk, _⟩, w⟩ := (show (∃ k, fs[k]? = some f ∧ ts.length = ar k) ∧ Tm.wfs fs B ts from w)
    have := tmDs_lay hn ts w
    refine ⟨?_, ?_⟩
    · show (PyData.strOk f && PyData.canLayAll0 (tmDs ts)) = true
      rw [this.1, low_ok (hn.low f (List.mem_of_getElem? hk))]; rfl
    · show max (PyData.str f).depth (PyData.depthAll (tmDs ts)) + 1 ≤ 1 + Tm.deps ts
      have : (PyData.str f).depth = 0 := rfl
      omega
theorem tmDs_lay {fs : List Str} (hn : Names fs) {B : Int} : ∀ ts : List Tm, Tm.wfs fs B ts → PyData.canLayAll0 (tmDs ts) = true ∧ PyData.depthAll (tmDs ts) ≤ Tm.deps ts
  | [], _ => ⟨rfl, Nat.le_refl _⟩
  | t :: ts, w => by
    have a := tmD_lay hn t w.1
    have b := tmDs_lay hn ts w.2
    refine ⟨?_, ?_⟩
    · show ((tmD t).canLay0 && PyData.canLayAll0 (tmDs ts)) = true
      rw [a.1, b.1]; rfl
    · show max (tmD t).depth (PyData.depthAll (tmDs ts)) ≤ max t.dep (Tm.deps ts)
      omega
end
theorem tmD_shaped {fs : List Str} (hn : Names fs) {B : Int} {t : Tm} (w : t.wf fs B) (h : t.dep ≤ 60) : SeqAt.shaped (tmD t) = true := by
  have := tmD_lay hn t w
  unfold SeqAt.shaped
  rw [this.1, Bool.true_and]
  exact decide_eq_true (by omega)
/-! symbols in rows -/
def rowD : V → PyData
  | .int n => .tuple [.int 0, .int n, .str ""]
  | .str f => .tuple [.int 1, .int 0, .str f]
  | _ => .tuple [.int 1, .int 0, .str ""]
theorem rowD_alike (x y : V) : PySem.W.alike (rowD x) (rowD y) = true := by cases x <;> cases y <;> rfl
theorem rows_alike : ∀ xs ys : List V, PySem.W.alikeAll (xs.map rowD) (ys.map rowD) = true
  | [], _ => rfl
  | _ :: _, [] => rfl
  | x :: xs, y :: ys => by
    show (PySem.W.alike (rowD x) (rowD y) && PySem.W.alikeAll (xs.map rowD) (ys.map rowD)) = true
    rw [rowD_alike, rows_alike xs ys]; rfl
def keyL (t : Tm) : List PyData := [.int ((syms t).length : Int), .list ((syms t).map rowD)]
theorem keyL_alike (t r : Tm) : PySem.W.alikeAll (keyL t) (keyL r) = true := by
  show (true && (PySem.W.alikeAll ((syms t).map rowD) ((syms r).map rowD) && true)) = true
  rw [rows_alike]; rfl
theorem row_inj : ∀ xs ys : List V, (∀ y ∈ xs, (∃ n, y = .int n) ∨ ∃ f, y = .str f) → (∀ y ∈ ys, (∃ n, y = .int n) ∨ ∃ f, y = .str f) → PySem.W.keyToksAll (xs.map rowD) = PySem.W.keyToksAll (ys.map rowD) → xs = ys
  | [], [], _, _, _ => rfl
  | [], _ :: _, _, _, h => by cases (show Sum.inl (0 : Int) = Sum.inl 1 from (List.cons.inj h).1)
  | _ :: _, [], _, _, h => by cases (show Sum.inl (1 : Int) = Sum.inl 0 from (List.cons.inj h).1)
  | x :: xs, y :: ys, hx, hy, h => by
    have h : Sum.inl 1 :: (PySem.W.keyToks (rowD x) ++ PySem.W.keyToksAll (xs.map rowD)) = Sum.inl 1 :: (PySem.W.keyToks (rowD y) ++ PySem.W.keyToksAll (ys.map rowD)) := h
    have h := (List.cons.inj h).2
    have ih := row_inj xs ys (fun z hz => hx z (List.mem_cons_of_mem _ hz)) (fun z hz => hy z (List.mem_cons_of_mem _ hz))
    rcases hx x (List.mem_cons_self ..) with ⟨n, rfl⟩ | ⟨f, rfl⟩
    · rcases hy y (List.mem_cons_self ..) with ⟨m, rfl⟩ | ⟨g, rfl⟩
      · have h : ([.inl 1, .inl 0, .inl 1, .inl n, .inl 1, .inr [], .inl 0] : List (Int ⊕ List Nat)) ++ PySem.W.keyToksAll (xs.map rowD) = [.inl 1, .inl 0, .inl 1, .inl m, .inl 1, .inr [], .inl 0] ++ PySem.W.keyToksAll (ys.map rowD) := h
        simp only [List.cons_append, List.nil_append, List.cons.injEq, Sum.inl.injEq, true_and] at h
        rw [h.1, ih h.2]
      · have h : ([.inl 1, .inl 0, .inl 1, .inl n, .inl 1, .inr [], .inl 0] : List (Int ⊕ List Nat)) ++ PySem.W.keyToksAll (xs.map rowD) = [.inl 1, .inl 1, .inl 1, .inl 0, .inl 1, .inr g.cps.toList, .inl 0] ++ PySem.W.keyToksAll (ys.map rowD) := h
        simp at h
    · rcases hy y (List.mem_cons_self ..) with ⟨m, rfl⟩ | ⟨g, rfl⟩
      · have h : ([.inl 1, .inl 1, .inl 1, .inl 0, .inl 1, .inr f.cps.toList, .inl 0] : List (Int ⊕ List Nat)) ++ PySem.W.keyToksAll (xs.map rowD) = [.inl 1, .inl 0, .inl 1, .inl m, .inl 1, .inr [], .inl 0] ++ PySem.W.keyToksAll (ys.map rowD) := h
        simp at h
      · have h : ([.inl 1, .inl 1, .inl 1, .inl 0, .inl 1, .inr f.cps.toList, .inl 0] : List (Int ⊕ List Nat)) ++ PySem.W.keyToksAll (xs.map rowD) = [.inl 1, .inl 1, .inl 1, .inl 0, .inl 1, .inr g.cps.toList, .inl 0] ++ PySem.W.keyToksAll (ys.map rowD) := h
        simp only [List.cons_append, List.nil_append, List.cons.injEq, Sum.inr.injEq, true_and] at h
        rw [PySem.W.str_of_cps h.1, ih h.2]
theorem nd_get {l : List Str} (nd : l.Nodup) {i j : Nat} {x : Str} (hi : l[i]? = some x) (hj : l[j]? = some x) : i = j := by
  obtain ⟨h1, e1⟩ := List.getElem?_eq_some_iff.mp hi
  obtain ⟨h2, e2⟩ := List.getElem?_eq_some_iff.mp hj
  exact (List.getElem_inj nd).mp (e1.trans e2.symm)
mutual
/-- a term's symbols tell the term -/
theorem syms_inj {fs : List Str} (nd : fs.Nodup) {B C : Int} : ∀ (t r : Tm) (a b : List V), t.wf fs B → r.wf fs C → syms t ++ a = syms r ++ b → t = r ∧ a = b
  | .var n, .var m, a, b, _, _, h => by
    have h : V.int n :: a = V.int m :: b := h
    obtain ⟨h1, h2⟩ := List.cons.inj h
    injection h1 with h1
    exact ⟨by rw [h1], h2⟩
  | .var n, .app g us, a, b, _, _, h => by
    have h : V.int n :: a = V.str g :: (symss us ++ b) := h
    cases (List.cons.inj h).1
  | .app f ts, .var m, a, b, _, _, h => by
    have h : V.str f :: (symss ts ++ a) = V.int m :: b := h
    cases (List.cons.inj h).1
  | .app f ts, .app g us, a, b, w1, w2, h => by
    have h : V.str f :: (symss ts ++ a) = V.str g :: (symss us ++ b) := h
    obtain ⟨h1, h2⟩ := List.cons.inj h
    injection h1 with h1
    subst h1
    obtain ⟨⟨i, i1, i2⟩, w1⟩ := (show (∃ k, fs[k]? = some f ∧ ts.length = ar k) ∧ Tm.wfs fs B ts from w1)
    obtain ⟨⟨j, j1, j2⟩, w2⟩ := (show (∃ k, fs[k]? = some f ∧ us.length = ar k) ∧ Tm.wfs fs C us from w2)
    cases nd_get nd i1 j1
    obtain ⟨e1, e2⟩ := symss_inj nd ts us a b w1 w2 (i2.trans j2.symm) h2
    exact ⟨by rw [e1], e2⟩
theorem symss_inj {fs : List Str} (nd : fs.Nodup) {B C : Int} : ∀ (ts us : List Tm) (a b : List V), Tm.wfs fs B ts → Tm.wfs fs C us → ts.length = us.length → symss ts ++ a = symss us ++ b → ts = us ∧ a = b
  | [], [], a, b, _, _, _, h => ⟨rfl, h⟩
  | [], _ :: _, _, _, _, _, l, _ => nomatch l
  | _ :: _, [], _, _, _, _, l, _ => nomatch l
  | t :: ts, u :: us, a, b, w1, w2, l, h => by
    have h : syms t ++ symss ts ++ a = syms u ++ symss us ++ b := h
    rw [List.append_assoc, List.append_assoc] at h
    obtain ⟨e1, h⟩ := syms_inj nd t u _ _ w1.1 w2.1 h
    obtain ⟨e2, e3⟩ := symss_inj nd ts us a b w1.2 w2.2 (Nat.succ.inj l) h
    exact ⟨by rw [e1, e2], e3⟩
end
theorem key_inj {fs : List Str} (nd : fs.Nodup) {B C : Int} {t r : Tm} (w1 : t.wf fs B) (w2 : r.wf fs C) (h : PySem.W.keyToksAll (keyL t) = PySem.W.keyToksAll (keyL r)) : t = r := by
  have h : Sum.inl 1 :: ([Sum.inl ((syms t).length : Int)] ++ (Sum.inl 1 :: (PySem.W.keyToksAll ((syms t).map rowD) ++ [Sum.inl 0]))) = Sum.inl 1 :: ([Sum.inl ((syms r).length : Int)] ++ (Sum.inl 1 :: (PySem.W.keyToksAll ((syms r).map rowD) ++ [Sum.inl 0]))) := h
  simp only [List.cons_append, List.nil_append, List.cons.injEq, true_and] at h
  have h2 := row_inj _ _ (fun y hy => syms_kind t y hy) (fun y hy => syms_kind r y hy) (List.append_cancel_right h.2)
  exact (syms_inj nd t r [] [] w1 w2 (by rw [List.append_nil, List.append_nil]; exact h2)).1
/-- the order's three cases -/
def klt (t r : Tm) : Bool := lexLt itemOrd (PySem.W.keyToksAll (keyL t)) (PySem.W.keyToksAll (keyL r))
def kcmp (t r : Tm) : Int := if klt t r = true then -1 else if klt r t = true then 1 else 0
theorem rows_dep : ∀ l : List V, PyData.depthAll (l.map rowD) ≤ 1
  | [] => Nat.zero_le _
  | y :: l => by
    have ih := rows_dep l
    have hy : (rowD y).depth ≤ 1 := by cases y <;> exact Nat.le_refl _
    show max (rowD y).depth (PyData.depthAll (l.map rowD)) ≤ 1
    omega
theorem keyL_dep (t : Tm) : PyData.depthAll (keyL t) ≤ 2 := by
  have := rows_dep (syms t)
  show max 0 (max (PyData.depthAll ((syms t).map rowD) + 1) 0) ≤ 2
  omega
theorem klt_self (t : Tm) : klt t t = false := lex_irrefl _
theorem klt_tri {fs : List Str} (nd : fs.Nodup) {B C : Int} {t r : Tm} (w1 : t.wf fs B) (w2 : r.wf fs C) (h1 : klt t r = false) (h2 : klt r t = false) : t = r := key_inj nd w1 w2 (lex_total _ _ h1 h2)
theorem klt_asym {t r : Tm} (h : klt t r = true) : klt r t = false := by
  cases e : klt r t with
  | false => rfl
  | true =>
    have := lex_trans _ _ _ h e
    have h2 := klt_self t
    rw [show klt t t = true from this] at h2
    cases h2
/-! lists of tuples -/
def LtIn (H : Hp) (p : Addr) (rows : List (List V)) : Prop := ∃ as : List Addr, H p = some (.lst (as.map V.ref)) ∧ as.length = rows.length ∧ ∀ (k : Nat) (a : Addr) (q : List V), as[k]? = some a → rows[k]? = some q → H a = some (.tup q)
theorem LtIn.same {H H' : Hp} {p : Addr} {rows : List (List V)} (h : LtIn H p rows) (s : Same H H') : LtIn H' p rows := by
  obtain ⟨as, h1, h2, h3⟩ := h
  exact ⟨as, s _ _ h1, h2, fun k a q ea eq => s _ _ (h3 k a q ea eq)⟩
theorem LtIn.push {H H' : Hp} {p a : Addr} {rows : List (List V)} {q : List V} {as : List Addr} (h2 : as.length = rows.length) (h3 : ∀ (k : Nat) (a : Addr) (q : List V), as[k]? = some a → rows[k]? = some q → H a = some (.tup q))
    (t : Tu H H') (e : H' p = some (.lst (as.map V.ref ++ [.ref a]))) (ha : H' a = some (.tup q)) : LtIn H' p (rows ++ [q]) := by
  refine ⟨as ++ [a], by rw [e, List.map_append]; rfl, by rw [List.length_append, List.length_append, h2]; rfl, fun k b r eb er => ?_⟩
  by_cases hk : k < as.length
  · rw [List.getElem?_append_left hk] at eb
    rw [List.getElem?_append_left (by omega)] at er
    exact t _ _ (h3 k b r eb er)
  · have h4 := (List.getElem?_eq_some_iff.mp eb).1
    rw [List.length_append, List.length_singleton] at h4
    have ek : k = as.length := by omega
    subst ek
    rw [List.getElem?_append_right (Nat.le_refl _), Nat.sub_self] at eb
    rw [List.getElem?_append_right (by omega), h2, Nat.sub_self] at er
    cases eb; cases er
    exact ha
/-- one list behind another -/
theorem LtIn.app {H H' : Hp} {p b r : Addr} {xs ys : List (List V)} {as bs : List Addr} (h2 : as.length = xs.length) (h3 : ∀ (k : Nat) (a : Addr) (q : List V), as[k]? = some a → xs[k]? = some q → H a = some (.tup q))
    (g2 : bs.length = ys.length) (g3 : ∀ (k : Nat) (a : Addr) (q : List V), bs[k]? = some a → ys[k]? = some q → H a = some (.tup q)) (t : Tu H H') (e : H' r = some (.lst (as.map V.ref ++ bs.map V.ref))) : LtIn H' r (xs ++ ys) := by
  refine ⟨as ++ bs, by rw [e, List.map_append], by rw [List.length_append, List.length_append, h2, g2], fun k c q ec eq => ?_⟩
  by_cases hk : k < as.length
  · rw [List.getElem?_append_left hk] at ec
    rw [List.getElem?_append_left (by omega)] at eq
    exact t _ _ (h3 k c q ec eq)
  · rw [List.getElem?_append_right (by omega)] at ec
    rw [List.getElem?_append_right (by omega), ← h2] at eq
    exact t _ _ (g3 _ c q ec eq)
def rowV : V → List V
  | .int n => [.int 0, .int n, .str ""]
  | .str f => [.int 1, .int 0, .str f]
  | _ => [.int 1, .int 0, .str ""]
theorem row_dp {K : PySem.W.Frag} {H : Hp} {a : Addr} {y : V} (h : H a = some (.tup (rowV y))) : Dp K H (.ref a) (rowD y) := by
  cases y with
  | int n => exact .tup (SqT.of h) (.cons (.int 0) (.cons (.int n) (.cons (.str _) .nil)))
  | str f => exact .tup (SqT.of h) (.cons (.int 1) (.cons (.int 0) (.cons (.str f) .nil)))
  | _ => exact .tup (SqT.of h) (.cons (.int 1) (.cons (.int 0) (.cons (.str _) .nil)))
theorem LtIn.dp {K : PySem.W.Frag} {H : Hp} {p : Addr} {l : List V} (h : LtIn H p (l.map rowV)) : Dp K H (.ref p) (.list (l.map rowD)) := by
  obtain ⟨as, h1, h2, h3⟩ := h
  rw [List.length_map] at h2
  refine .lst (SqL.of h1) (dp_all (by rw [List.length_map, List.length_map, h2]) fun k v d e1 e2 => ?_)
  rw [List.getElem?_map] at e1 e2
  cases ea : as[k]? with
  | none => rw [ea] at e1; cases e1
  | some a =>
    cases ey : l[k]? with
    | none => rw [ey] at e2; cases e2
    | some y =>
      rw [ea] at e1; rw [ey] at e2
      cases e1; cases e2
      exact row_dp (h3 k a _ ea (by rw [List.getElem?_map, ey]; rfl))
theorem rows_lay {fs : List Str} (hn : Names fs) : ∀ l : List V, (∀ y ∈ l, (∃ n, y = .int n) ∨ ∃ f, f ∈ fs ∧ y = .str f) → PyData.canLayAll0 (l.map rowD) = true ∧ PyData.depthAll (l.map rowD) ≤ 1
  | [], _ => ⟨rfl, Nat.zero_le _⟩
  | y :: l, h => by
    have ih := rows_lay hn l fun z hz => h z (List.mem_cons_of_mem _ hz)
    have hy : (rowD y).canLay0 = true ∧ (rowD y).depth ≤ 1 := by
      rcases h y (List.mem_cons_self ..) with ⟨n, rfl⟩ | ⟨f, hf, rfl⟩
      · exact ⟨by show (true && (true && (PyData.strOk "" && true))) = true; decide +kernel, Nat.le_refl _⟩
      · refine ⟨?_, Nat.le_refl _⟩
        show (true && (true && (PyData.strOk f && true))) = true
        rw [low_ok (hn.low f hf)]; rfl
    refine ⟨?_, ?_⟩
    · show ((rowD y).canLay0 && PyData.canLayAll0 (l.map rowD)) = true
      rw [hy.1, ih.1]; rfl
    · show max (rowD y).depth (PyData.depthAll (l.map rowD)) ≤ 1
      omega
end J

/-! ### steps: a pattern with the variable 9 at one place -/
namespace J
open PySem L2
mutual
theorem sub_id (m : Int → Option Tm) : ∀ t : Tm, (∀ n ∈ occ t, (m n).getD (.var n) = .var n) → sub m t = t
  | .var n, h => h n (List.mem_singleton.mpr rfl)
  | .app f ts, h => congrArg (Tm.app f) (subs_id m ts h)
theorem subs_id (m : Int → Option Tm) : ∀ ts : List Tm, (∀ n ∈ occs ts, (m n).getD (.var n) = .var n) → subs m ts = ts
  | [], _ => rfl
  | t :: ts, h => by
    show sub m t :: subs m ts = t :: ts
    rw [sub_id m t fun n hn => h n (List.mem_append.mpr (.inl hn)), subs_id m ts fun n hn => h n (List.mem_append.mpr (.inr hn))]
end
theorem occs_mem {n : Int} : ∀ {ts : List Tm}, n ∈ occs ts ↔ ∃ t ∈ ts, n ∈ occ t
  | [] => ⟨fun h => (nomatch h), fun ⟨_, h, _⟩ => nomatch h⟩
  | t :: ts => by
    show n ∈ occ t ++ occs ts ↔ _
    rw [List.mem_append, occs_mem (ts := ts)]
    constructor
    · rintro (h | ⟨u, h1, h2⟩)
      · exact ⟨t, List.mem_cons_self .., h⟩
      · exact ⟨u, List.mem_cons_of_mem _ h1, h2⟩
    · rintro ⟨u, h1, h2⟩
      rcases List.mem_cons.mp h1 with e | h1
      · rw [e] at h2; exact .inl h2
      · exact .inr ⟨u, h1, h2⟩
/-- what stood there, put in again -/
theorem sub_rep (m : Int → Option Tm) {z : Int} {c : Tm} (hz : (m z).getD (.var z) = c) : ∀ (q : List Int) (t : Tm), at? q t = some c → z ∉ occ t → (∀ n ∈ occ (rep (.var z) q t), n ≠ z → (m n).getD (.var n) = .var n) → sub m (rep (.var z) q t) = t
  | [], t, h, _, _ => by
    cases (show some t = some c from h)
    exact hz
  | k :: q, .var _, h, _, _ => nomatch h
  | k :: q, .app f ts, h, ho, hi => by
    rw [at_cons_app] at h
    by_cases h1 : 1 ≤ k
    · rw [if_pos h1] at h
      cases ht : ts[(k - 1).toNat]? with
      | none => rw [ht] at h; cases h
      | some t =>
        rw [ht] at h
        have h : at? q t = some c := h
        have hk := (List.getElem?_eq_some_iff.mp ht).1
        have e : ts.getD (k - 1).toNat (.var z) = t := by rw [List.getD_eq_getElem?_getD, ht]; rfl
        have ho : z ∉ occs ts := ho
        have hi : ∀ n ∈ occs (ts.set (k - 1).toNat (rep (.var z) q (ts.getD (k - 1).toNat (.var z)))), n ≠ z → (m n).getD (.var n) = .var n := hi
        rw [e] at hi
        have mt := List.mem_of_getElem? ht
        have ih := sub_rep m hz q t h (fun w => ho (occs_mem.mpr ⟨t, mt, w⟩)) fun n hn => hi n (occs_mem.mpr ⟨_, List.mem_set hk _, hn⟩)
        show Tm.app f (subs m (ts.set (k - 1).toNat (rep (.var z) q (ts.getD (k - 1).toNat (.var z))))) = .app f ts
        rw [e]
        congr 1
        rw [subs_map]
        refine List.ext_getElem? fun j => ?_
        rw [List.getElem?_map, List.getElem?_set]
        by_cases hj : (k - 1).toNat = j
        · subst hj
          rw [if_pos rfl, if_pos hk, ht]
          exact congrArg some ih
        · rw [if_neg hj]
          cases gj : ts[j]? with
          | none => rfl
          | some u =>
            refine congrArg some (sub_id m u fun n hn => ?_)
            have mu := List.mem_of_getElem? gj
            refine hi n (occs_mem.mpr ⟨u, ?_, hn⟩) fun w => ho (occs_mem.mpr ⟨u, mu, by rw [← w]; exact hn⟩)
            exact List.mem_of_getElem? (i := j) (by rw [List.getElem?_set, if_neg hj, gj])
    · rw [if_neg h1] at h; cases h
end J

/-! ### sizes, places and variables behind a substitution and a replacement -/
namespace J
open PySem L2
mutual
theorem sub_szM (m : Int → Option Tm) (M D : Nat) (h1 : 1 ≤ M) : ∀ t : Tm, (∀ n ∈ occ t, ((m n).getD (.var n)).sz ≤ M ∧ ((m n).getD (.var n)).dep ≤ 1 + D) → (sub m t).sz ≤ M * t.sz ∧ (sub m t).dep ≤ t.dep + D
  | .var n, h => by
    have := h n (List.mem_singleton.mpr rfl)
    show ((m n).getD (.var n)).sz ≤ M * 1 ∧ ((m n).getD (.var n)).dep ≤ 1 + D
    rw [Nat.mul_one]; exact this
  | .app f ts, h => by
    have := subs_szM m M D h1 ts h
    show 1 + Tm.szs (subs m ts) ≤ M * (1 + Tm.szs ts) ∧ 1 + Tm.deps (subs m ts) ≤ 1 + Tm.deps ts + D
    rw [Nat.mul_add]
    omega
theorem subs_szM (m : Int → Option Tm) (M D : Nat) (h1 : 1 ≤ M) : ∀ ts : List Tm, (∀ n ∈ occs ts, ((m n).getD (.var n)).sz ≤ M ∧ ((m n).getD (.var n)).dep ≤ 1 + D) → Tm.szs (subs m ts) ≤ M * Tm.szs ts ∧ Tm.deps (subs m ts) ≤ Tm.deps ts + D
  | [], _ => ⟨Nat.zero_le _, Nat.zero_le _⟩
  | t :: ts, h => by
    have a := sub_szM m M D h1 t fun n hn => h n (List.mem_append.mpr (.inl hn))
    have b := subs_szM m M D h1 ts fun n hn => h n (List.mem_append.mpr (.inr hn))
    show (sub m t).sz + Tm.szs (subs m ts) ≤ M * (t.sz + Tm.szs ts) ∧ max (sub m t).dep (Tm.deps (subs m ts)) ≤ max t.dep (Tm.deps ts) + D
    rw [Nat.mul_add]
    omega
end
mutual
theorem sub_wf {fs : List Str} {B C : Int} (m : Int → Option Tm) : ∀ t : Tm, t.wf fs B → (∀ n ∈ occ t, ((m n).getD (.var n)).wf fs C) → (sub m t).wf fs C
  | .var n, _, h => h n (List.mem_singleton.mpr rfl)
  | .app f ts, w, h => by
    obtain ⟨⟨k, h1, h2⟩, w⟩ := (show (∃ k, fs[k]? = some f ∧ ts.length = ar k) ∧ Tm.wfs fs B ts from w)
    exact ⟨⟨k, h1, by rw [subs_map, List.length_map]; exact h2⟩, subs_wf m ts w h⟩
theorem subs_wf {fs : List Str} {B C : Int} (m : Int → Option Tm) : ∀ ts : List Tm, Tm.wfs fs B ts → (∀ n ∈ occs ts, ((m n).getD (.var n)).wf fs C) → Tm.wfs fs C (subs m ts)
  | [], _, _ => trivial
  | t :: ts, w, h => ⟨sub_wf m t w.1 fun n hn => h n (List.mem_append.mpr (.inl hn)), subs_wf m ts w.2 fun n hn => h n (List.mem_append.mpr (.inr hn))⟩
end
theorem at_wf {fs : List Str} {B : Int} : ∀ (q : List Int) (t c : Tm), at? q t = some c → t.wf fs B → c.wf fs B
  | [], t, c, h, w => by cases (show some t = some c from h); exact w
  | k :: q, .var _, _, h, _ => nomatch h
  | k :: q, .app f ts, c, h, w => by
    rw [at_cons_app] at h
    by_cases h1 : 1 ≤ k
    · rw [if_pos h1] at h
      cases ht : ts[(k - 1).toNat]? with
      | none => rw [ht] at h; cases h
      | some t =>
        rw [ht] at h
        exact at_wf q t c h (Tm.wf_of_mem w.2 (List.mem_of_getElem? ht))
    · rw [if_neg h1] at h; cases h
theorem at_occ : ∀ (q : List Int) (t c : Tm), at? q t = some c → ∀ n ∈ occ c, n ∈ occ t
  | [], t, c, h, n, hn => by cases (show some t = some c from h); exact hn
  | k :: q, .var _, _, h, _, _ => nomatch h
  | k :: q, .app f ts, c, h, n, hn => by
    rw [at_cons_app] at h
    by_cases h1 : 1 ≤ k
    · rw [if_pos h1] at h
      cases ht : ts[(k - 1).toNat]? with
      | none => rw [ht] at h; cases h
      | some t =>
        rw [ht] at h
        exact occs_mem.mpr ⟨t, List.mem_of_getElem? ht, at_occ q t c h n hn⟩
    · rw [if_neg h1] at h; cases h
theorem at_len : ∀ (q : List Int) (t c : Tm), at? q t = some c → q.length + c.dep ≤ t.dep
  | [], t, c, h => by cases (show some t = some c from h); show 0 + t.dep ≤ t.dep; omega
  | k :: q, .var _, _, h => nomatch h
  | k :: q, .app f ts, c, h => by
    rw [at_cons_app] at h
    by_cases h1 : 1 ≤ k
    · rw [if_pos h1] at h
      cases ht : ts[(k - 1).toNat]? with
      | none => rw [ht] at h; cases h
      | some t =>
        rw [ht] at h
        have ih := at_len q t c h
        have := Tm.dep_of_mem (List.mem_of_getElem? ht)
        show q.length + 1 + c.dep ≤ 1 + Tm.deps ts
        omega
    · rw [if_neg h1] at h; cases h
theorem szs_set : ∀ (l : List Tm) (j : Nat) (x y : Tm), l[j]? = some y → Tm.szs (l.set j x) + y.sz = Tm.szs l + x.sz
  | [], j, x, y, h => by simp at h
  | a :: r, 0, x, y, h => by
    have h : a = y := by simpa using h
    subst h
    show x.sz + Tm.szs r + a.sz = a.sz + Tm.szs r + x.sz
    omega
  | a :: r, j + 1, x, y, h => by
    have := szs_set r j x y (by simpa using h)
    show a.sz + Tm.szs (r.set j x) + y.sz = a.sz + Tm.szs r + x.sz
    omega
/-- what goes and what comes -/
theorem rep_sz (u : Tm) : ∀ (q : List Int) (t c : Tm), at? q t = some c → (rep u q t).sz + c.sz = t.sz + u.sz
  | [], t, c, h => by cases (show some t = some c from h); show u.sz + t.sz = t.sz + u.sz; omega
  | k :: q, .var _, _, h => nomatch h
  | k :: q, .app f ts, c, h => by
    rw [at_cons_app] at h
    by_cases h1 : 1 ≤ k
    · rw [if_pos h1] at h
      cases ht : ts[(k - 1).toNat]? with
      | none => rw [ht] at h; cases h
      | some t =>
        rw [ht] at h
        have ih := rep_sz u q t c h
        have e : ts.getD (k - 1).toNat u = t := by rw [List.getD_eq_getElem?_getD, ht]; rfl
        have := szs_set ts (k - 1).toNat (rep u q t) t ht
        show 1 + Tm.szs (ts.set (k - 1).toNat (rep u q (ts.getD (k - 1).toNat u))) + c.sz = 1 + Tm.szs ts + u.sz
        rw [e]
        omega
    · rw [if_neg h1] at h; cases h
/-- the variables of a term in which something was put -/
theorem occ_rep (u : Tm) : ∀ (q : List Int) (t : Tm), IsPos q t → ∀ n, n ∈ occ (rep u q t) → n ∈ occ t ∨ n ∈ occ u
  | [], _, _, _, h => .inr h
  | k :: q, .var _, h, _, _ => h.elim
  | k :: q, .app f ts, ⟨h1, t, ht, hp⟩, n, hn => by
    have e : ts.getD (k - 1).toNat u = t := by rw [List.getD_eq_getElem?_getD, ht]; rfl
    have hn : n ∈ occs (ts.set (k - 1).toNat (rep u q (ts.getD (k - 1).toNat u))) := hn
    rw [e] at hn
    obtain ⟨w, hw, hn⟩ := occs_mem.mp hn
    rcases List.mem_or_eq_of_mem_set hw with z | z
    · exact .inl (occs_mem.mpr ⟨w, z, hn⟩)
    · rw [z] at hn
      rcases occ_rep u q t hp n hn with z | z
      · exact .inl (occs_mem.mpr ⟨t, List.mem_of_getElem? ht, z⟩)
      · exact .inr z
theorem occ_rep_in (u : Tm) : ∀ (q : List Int) (t : Tm), IsPos q t → ∀ n ∈ occ u, n ∈ occ (rep u q t)
  | [], _, _, _, h => h
  | k :: q, .var _, h, _, _ => h.elim
  | k :: q, .app f ts, ⟨h1, t, ht, hp⟩, n, hn => by
    have hk := (List.getElem?_eq_some_iff.mp ht).1
    have e : ts.getD (k - 1).toNat u = t := by rw [List.getD_eq_getElem?_getD, ht]; rfl
    show n ∈ occs (ts.set (k - 1).toNat (rep u q (ts.getD (k - 1).toNat u)))
    rw [e]
    exact occs_mem.mpr ⟨_, List.mem_set hk _, occ_rep_in u q t hp n hn⟩
/-- a place stays a place -/
theorem isPos_sub (m : Int → Option Tm) : ∀ (q : List Int) (t : Tm), IsPos q t → IsPos q (sub m t)
  | [], _, _ => trivial
  | k :: q, .var _, h => h.elim
  | k :: q, .app f ts, ⟨h1, t, ht, hp⟩ => ⟨h1, sub m t, by rw [subs_map, List.getElem?_map, ht]; rfl, isPos_sub m q t hp⟩
theorem sub_rep_out (m : Int → Option Tm) (u : Tm) : ∀ (q : List Int) (t : Tm), IsPos q t → sub m (rep u q t) = rep (sub m u) q (sub m t)
  | [], _, _ => rfl
  | k :: q, .var _, h => h.elim
  | k :: q, .app f ts, ⟨h1, t, ht, hp⟩ => by
    have e : ts.getD (k - 1).toNat u = t := by rw [List.getD_eq_getElem?_getD, ht]; rfl
    have e2 : (subs m ts).getD (k - 1).toNat (sub m u) = sub m t := by rw [List.getD_eq_getElem?_getD, subs_map, List.getElem?_map, ht]; rfl
    show Tm.app f (subs m (ts.set (k - 1).toNat (rep u q (ts.getD (k - 1).toNat u)))) = Tm.app f ((subs m ts).set (k - 1).toNat (rep (sub m u) q ((subs m ts).getD (k - 1).toNat (sub m u))))
    rw [e, e2, subs_map, List.map_set, sub_rep_out m u q t hp, ← subs_map]
/-- xs[-1] -/
theorem at_neg1 {xs : List V} {v : V} (h : xs[xs.length - 1]? = some v) : atI xs (0 - 1) = some v := by
  have hn : xs ≠ [] := fun z => by rw [z] at h; simp at h
  have h1 := List.dropLast_concat_getLast hn
  have h2 : xs.getLast hn = v := by rw [List.getLast_eq_getElem]; exact (List.getElem?_eq_some_iff.mp h).2
  rw [← h1, h2]; exact atI_last _ _
theorem pos_ints : ∀ (q : List Int) (t : Tm), IsPos q t → ∀ k ∈ q, 1 ≤ k ∧ k ≤ (t.sz : Int)
  | [], _, _, k, hk => nomatch hk
  | _ :: _, .var _, h, _, _ => h.elim
  | j :: q, .app f ts, ⟨h1, t, ht, hp⟩, k, hk => by
    have hl := (List.getElem?_eq_some_iff.mp ht).1
    have := Tm.len_le ts
    have h3 := Tm.sz_arg (List.mem_of_getElem? ht)
    show 1 ≤ k ∧ k ≤ ((1 + Tm.szs ts : Nat) : Int)
    rcases List.mem_cons.mp hk with e | hk
    · subst e; omega
    · have := pos_ints q t hp k hk
      omega
/-! lists without a number twice -/
theorem nd_below : ∀ (B : Nat) (l : List Int), l.Nodup → (∀ x ∈ l, 0 ≤ x ∧ x < (B : Int)) → l.length ≤ B
  | 0, [], _, _ => Nat.le_refl _
  | 0, x :: _, _, h => by have := h x (List.mem_cons_self ..); omega
  | B + 1, l, nd, h => by
    have h1 : ((l.erase (B : Int)).length) ≤ B := nd_below B _ (nd.erase _) fun x hx => by
      have h2 := h x (List.mem_of_mem_erase hx)
      have h3 : x ≠ (B : Int) := fun e => by rw [e] at hx; exact nd.not_mem_erase hx
      omega
    have h2 := List.length_erase (a := (B : Int)) (l := l)
    by_cases z : (B : Int) ∈ l
    · rw [if_pos z] at h2; omega
    · rw [if_neg z] at h2; omega
theorem nd_same {l1 l2 : List Int} (h1 : l1.Nodup) (h2 : l2.Nodup) (h : ∀ x, x ∈ l1 ↔ x ∈ l2) : l1.length = l2.length := ((List.perm_ext_iff_of_nodup h1 h2).mpr h).length_eq
/-! tables -/
theorem look_app : ∀ (a b : List (Int × Tm)) (n : Int), look (a ++ b) n = (look a n).or (look b n)
  | [], _, _ => rfl
  | x :: a, b, n => by
    show (if x.1 = n then some x.2 else look (a ++ b) n) = (if x.1 = n then some x.2 else look a n).or (look b n)
    by_cases e : x.1 = n
    · rw [if_pos e, if_pos e]; rfl
    · rw [if_neg e, if_neg e]; exact look_app a b n
theorem look_some {tb : List (Int × Tm)} {n : Int} : look tb n ≠ none ↔ n ∈ tb.map (·.1) := by
  induction tb with
  | nil => exact ⟨fun h => absurd rfl h, fun h => nomatch h⟩
  | cons x l ih =>
    show (if x.1 = n then some x.2 else look l n) ≠ none ↔ n ∈ x.1 :: l.map (·.1)
    by_cases e : x.1 = n
    · rw [if_pos e]; exact ⟨fun _ => by rw [e]; exact List.mem_cons_self .., fun _ z => nomatch z⟩
    · rw [if_neg e, ih, List.mem_cons]
      exact ⟨.inr, fun z => z.elim (fun z => absurd z.symm e) id⟩
theorem look_ids {l : List Int} {n : Int} (h : n ∈ l) : look (l.map fun n => (n, Tm.var n)) n = some (.var n) := by
  induction l with
  | nil => cases h
  | cons a r ih =>
    show (if a = n then some (Tm.var a) else look (r.map fun n => (n, Tm.var n)) n) = _
    by_cases e : a = n
    · rw [if_pos e, e]
    · rw [if_neg e]; exact ih ((List.mem_cons.mp h).elim (fun z => absurd z.symm e) id)
/-- a step of the document: the equation L = R with the values tb, at q, leads from t to t' -/
structure Stp (fs : List Str) (t t' : Tm) (fwd : Bool) (q : List Int) (tb : List (Int × Tm)) (L R : Tm) : Prop where
  hat : at? q t = some (sub (look tb) (if fwd then L else R))
  res : t' = rep (sub (look tb) (if fwd then R else L)) q t
  len : tb.length = (adds (vars L) (vars R)).length
  has : ∀ n ∈ adds (vars L) (vars R), look tb n ≠ none
  few : tb.length ≤ 10
  nd : (tb.map (·.1)).Nodup
  wl : L.wf fs 10
  wr : R.wf fs 10
  wt : ∀ x ∈ tb, (0 ≤ x.1 ∧ x.1 < 10) ∧ x.2.wf fs 9 ∧ x.2.sz ≤ t.sz + 4 ∧ x.2.dep ≤ t.dep + 2
  zl : L.sz ≤ t.sz + 5 ∧ L.dep ≤ t.dep + 2
  zr : R.sz ≤ t.sz + 5 ∧ R.dep ≤ t.dep + 2
  w' : t'.wf fs 9
  z' : t'.sz ≤ t.sz + 16
  d' : t'.dep ≤ t.dep + 2
  du : (sub (look tb) (if fwd then R else L)).dep ≤ (sub (look tb) (if fwd then L else R)).dep + 2
  zu : (sub (look tb) (if fwd then R else L)).sz ≤ t.sz + 16
/-- the table of a drawn step: what the law puts into it -/
theorem stp_of {fs : List Str} {t c0 c N N1 : Tm} {q q1 : List Int} {tb : List (Int × Tm)} {l : List (Int × Tm)} (wt : t.wf fs 9) (hq : at? q t = some c0) (hc : at? q1 c0 = some c)
    (htb : tb = (9, c) :: ((vars (rep (.var 9) q1 c0)).filter (· ≠ 9)).map (fun n => (n, Tm.var n)) ++ l) (nd : (tb.map (·.1)).Nodup) (hl : ∀ x ∈ l, x.1 ∈ vars N1 ∧ x.2.wf fs 9 ∧ x.2.sz ≤ 4 ∧ x.2.dep ≤ 2) (hN1 : ∀ n ∈ vars N1, n ∈ tb.map (·.1))
    (wN : N.wf fs 9) (zN : N.sz ≤ 4) (dN : N.dep ≤ 2) (hN : N1 = N ∨ ∃ q2, IsPos q2 N ∧ N1 = rep (.var 9) q2 N) (fwd : Bool) {L R : Tm} (eL : (if fwd then L else R) = rep (.var 9) q1 c0) (eR : (if fwd then R else L) = N1) :
    Stp fs t (rep (sub (look tb) N1) q t) fwd q tb L R := by
  have ip1 : IsPos q1 c0 := (isPos_at q1 c0).mpr ⟨c, hc⟩
  have ip : IsPos q t := (isPos_at q t).mpr ⟨c0, hq⟩
  have zc := at_sz _ _ _ hc
  have z0 := at_sz _ _ _ hq
  have l0 := at_len _ _ _ hq
  have l1 := at_len _ _ _ hc
  have w0 := at_wf _ _ _ hq wt
  have wc := at_wf _ _ _ hc w0
  have cp := c.dep_pos
  have c0p := c0.dep_pos
  have tp := t.dep_pos
  have cz := c.sz_pos
  have one : (Tm.var 9).sz = 1 := rfl
  have one' : (Tm.var 9).dep = 1 := rfl
  have w9 : (Tm.var 9).wf fs 10 := ⟨by decide, by decide⟩
  -- the old side
  have wO : (rep (.var 9) q1 c0).wf fs 10 := rep_wf w9 q1 c0 (w0.mono (by decide)) ip1
  have zO := rep_sz (.var 9) q1 c0 c hc
  have dO := (rep_dep (.var 9) q1 c0 ip1).1
  have o9 : (9 : Int) ∉ occ c0 := fun z => by have := (occ_wf c0 w0 9 z).2; omega
  have in9 : (9 : Int) ∈ occ (rep (.var 9) q1 c0) := occ_rep_in (.var 9) q1 c0 ip1 9 (List.mem_singleton.mpr rfl)
  have lk9 : look tb 9 = some c := by rw [htb]; rfl
  have lkO : ∀ n ∈ occ (rep (.var 9) q1 c0), n ≠ 9 → look tb n = some (.var n) := fun n hn ne => by
    rw [htb, look_app]
    have e : look ((9, c) :: ((vars (rep (.var 9) q1 c0)).filter (· ≠ 9)).map (fun n => (n, Tm.var n))) n = some (.var n) := by
      show (if (9 : Int) = n then some c else look (((vars (rep (.var 9) q1 c0)).filter (· ≠ 9)).map (fun n => (n, Tm.var n))) n) = _
      rw [if_neg (fun z => ne z.symm)]
      exact look_ids (List.mem_filter.mpr ⟨(vars_mem _ _).mpr hn, by simpa using ne⟩)
    rw [e]; rfl
  have sO : sub (look tb) (rep (.var 9) q1 c0) = c0 := sub_rep (look tb) (by rw [lk9]; rfl) q1 c0 hc o9 fun n hn ne => by rw [lkO n hn ne]; rfl
  -- the values
  have vals : ∀ x ∈ tb, (x.1 = 9 ∧ x.2 = c) ∨ (x.1 ≠ 9 ∧ x.1 ∈ vars (rep (.var 9) q1 c0) ∧ x.2 = .var x.1) ∨ x ∈ l := fun x hx => by
    rw [htb] at hx
    rcases List.mem_append.mp hx with h | h
    · rcases List.mem_cons.mp h with h | h
      · rw [h]; exact .inl ⟨rfl, rfl⟩
      · obtain ⟨n, hn, rfl⟩ := List.mem_map.mp h
        obtain ⟨h1, h2⟩ := List.mem_filter.mp hn
        exact .inr (.inl ⟨by simpa using h2, h1, rfl⟩)
    · exact .inr (.inr h)
  have wO9 : ∀ n ∈ occ (rep (.var 9) q1 c0), n ≠ 9 → 0 ≤ n ∧ n < 9 := fun n hn ne => by
    rcases occ_rep (.var 9) q1 c0 ip1 n hn with z | z
    · exact occ_wf c0 w0 n z
    · exact absurd (List.mem_singleton.mp z) ne
  have wN1 : N1.wf fs 10 := by
    rcases hN with e | ⟨q2, ip2, e⟩
    · rw [e]; exact wN.mono (by decide)
    · rw [e]; exact rep_wf w9 q2 N (wN.mono (by decide)) ip2
  have wvals : ∀ x ∈ tb, (0 ≤ x.1 ∧ x.1 < 10) ∧ x.2.wf fs 9 ∧ x.2.sz ≤ t.sz + 4 ∧ x.2.dep ≤ t.dep + 2 := fun x hx => by
    rcases vals x hx with ⟨h1, h2⟩ | ⟨h1, h2, h3⟩ | h
    · rw [h1, h2]; exact ⟨by decide, wc, by omega, by omega⟩
    · have := wO9 x.1 ((vars_mem _ _).mp h2) h1
      have e1 : x.2.sz = 1 := by rw [h3]; rfl
      have e2 : x.2.dep = 1 := by rw [h3]; rfl
      have e3 : x.2.wf fs 9 := by rw [h3]; exact this
      exact ⟨by omega, e3, by omega, by omega⟩
    · obtain ⟨h1, h2, h3, h4⟩ := hl x h
      have := occ_wf N1 wN1 x.1 ((vars_mem _ _).mp h1)
      exact ⟨this, h2, by omega, by omega⟩
  have low : ∀ n, n ≠ 9 → ((look tb n).getD (.var n)).sz ≤ 4 ∧ ((look tb n).getD (.var n)).dep ≤ 1 + 1 := fun n ne => by
    cases e : look tb n with
    | none => exact ⟨by show 1 ≤ 4; decide, by show 1 ≤ 2; decide⟩
    | some u =>
      have h := vals _ (look_mem e)
      rcases h with ⟨h1, _⟩ | ⟨_, _, h3⟩ | h
      · exact absurd h1 ne
      · have h3 : u = .var n := h3
        rw [h3]; exact ⟨by show 1 ≤ 4; decide, by show 1 ≤ 2; decide⟩
      · exact ⟨(hl _ h).2.2.1, (hl _ h).2.2.2⟩
  have nN : ∀ n ∈ occ N, n ≠ 9 := fun n hn z => by have := (occ_wf N wN n hn).2; omega
  have sN := sub_szM (look tb) 4 1 (by decide) N fun n hn => low n (nN n hn)
  have wfv : ∀ n, n ∈ tb.map (·.1) → ((look tb n).getD (.var n)).wf fs 9 := fun n hn => by
    cases e : look tb n with
    | none => exact absurd e (look_some.mpr hn)
    | some u => exact (wvals _ (look_mem e)).2.1
  have wU : (sub (look tb) N1).wf fs 9 := sub_wf (look tb) N1 wN1 fun n hn => wfv n (hN1 n ((vars_mem _ _).mpr hn))
  have zU : (sub (look tb) N1).sz ≤ c.sz + 16 ∧ (sub (look tb) N1).dep ≤ max 3 (1 + c.dep) := by
    rcases hN with e | ⟨q2, ip2, e⟩
    · rw [e]; omega
    · obtain ⟨u2, hu2⟩ := (isPos_at q2 N).mp ip2
      have l2 := at_len _ _ _ hu2
      have p2 := u2.dep_pos
      have e1 : sub (look tb) (.var 9) = c := by show (look tb 9).getD (.var 9) = c; rw [lk9]; rfl
      rw [e, sub_rep_out (look tb) (.var 9) q2 N ip2, e1]
      have := rep_dep c q2 (sub (look tb) N) (isPos_sub (look tb) q2 N ip2)
      omega
  have zN1 : N1.sz ≤ 5 ∧ N1.dep ≤ 2 := by
    rcases hN with e | ⟨q2, ip2, e⟩
    · rw [e]; omega
    · obtain ⟨u2, hu2⟩ := (isPos_at q2 N).mp ip2
      have l2 := at_len _ _ _ hu2
      have p2 := u2.dep_pos
      have := rep_dep (.var 9) q2 N ip2
      rw [e]; omega
  have rz := rep_sz (sub (look tb) N1) q t c0 hq
  have rd := (rep_dep (sub (look tb) N1) q t ip).1
  have keys : ∀ n, n ∈ tb.map (·.1) ↔ n ∈ occ (rep (.var 9) q1 c0) ∨ n ∈ occ N1 := fun n => by
    constructor
    · intro h
      obtain ⟨x, hx, rfl⟩ := List.mem_map.mp h
      rcases vals x hx with ⟨h1, _⟩ | ⟨_, h2, _⟩ | h
      · rw [h1]; exact .inl in9
      · exact .inl ((vars_mem _ _).mp h2)
      · exact .inr ((vars_mem _ _).mp (hl x h).1)
    · rintro (h | h)
      · by_cases ne : n = 9
        · rw [ne]; exact look_some.mp (by rw [lk9]; exact fun z => nomatch z)
        · exact look_some.mp (by rw [lkO n h ne]; exact fun z => nomatch z)
      · exact hN1 n ((vars_mem _ _).mpr h)
  have memLR : ∀ n, n ∈ adds (vars L) (vars R) ↔ n ∈ tb.map (·.1) := fun n => by
    rw [adds_mem, vars_mem, vars_mem, keys]
    cases fwd
    · rw [← show R = rep (.var 9) q1 c0 from eL, ← show L = N1 from eR]; exact Or.comm
    · rw [← show L = rep (.var 9) q1 c0 from eL, ← show R = N1 from eR]
  have ln : tb.length = (adds (vars L) (vars R)).length := by
    rw [← List.length_map (f := fun x : Int × Tm => x.1)]
    exact nd_same nd (adds_nodup _ _ (adds_nodup _ _ List.nodup_nil)) fun n => (memLR n).symm
  have fw : tb.length ≤ 10 := by
    rw [← List.length_map (f := fun x : Int × Tm => x.1)]
    refine nd_below 10 _ nd fun n hn => ?_
    obtain ⟨x, hx, rfl⟩ := List.mem_map.mp hn
    exact (wvals x hx).1
  have two : (L.wf fs 10 ∧ L.sz ≤ t.sz + 5 ∧ L.dep ≤ t.dep + 2) ∧ (R.wf fs 10 ∧ R.sz ≤ t.sz + 5 ∧ R.dep ≤ t.dep + 2) := by
    have hO : (rep (.var 9) q1 c0).wf fs 10 ∧ (rep (.var 9) q1 c0).sz ≤ t.sz + 5 ∧ (rep (.var 9) q1 c0).dep ≤ t.dep + 2 := ⟨wO, by omega, by omega⟩
    have hN : N1.wf fs 10 ∧ N1.sz ≤ t.sz + 5 ∧ N1.dep ≤ t.dep + 2 := ⟨wN1, by omega, by omega⟩
    cases fwd
    · rw [show R = rep (.var 9) q1 c0 from eL, show L = N1 from eR]; exact ⟨hN, hO⟩
    · rw [show L = rep (.var 9) q1 c0 from eL, show R = N1 from eR]; exact ⟨hO, hN⟩
  refine { hat := by rw [eL, sO]; exact hq, res := by rw [eR], len := ln, has := fun n hn => look_some.mpr ((memLR n).mp hn), few := fw, nd := nd, wl := two.1.1, wr := two.2.1, wt := wvals, zl := two.1.2, zr := two.2.2, w' := rep_wf wU q t wt ip, z' := by omega, d' := by omega, du := by rw [eR, eL, sO]; omega, zu := by rw [eR]; omega }
end J

/-! ### steps in the heap, chains of them, repr of lists of steps, dict(d) -/
namespace J
open PySem PySem.Spec PyProof.Rows L2
/-- a step of the document -/
structure Stq where
  kd : Str
  k : Int
  fwd : Bool
  q : List Int
  tb : List (Int × Tm)
/-- the same step in the other direction -/
def Stq.rev (x : Stq) : Stq := { x with fwd := !x.fwd }
/-- the step x stands in H as the value w -/
def StqIn (H : Hp) (w : V) (x : Stq) : Prop := ∃ (a src pa bd : Addr) (kvs : List (Key × V)), w = .ref a ∧ H a = some (.tup [.ref src, .bl x.fwd, .ref pa, .ref bd]) ∧ H src = some (.tup [.str x.kd, .int x.k]) ∧ H pa = some (.tup (x.q.map V.int)) ∧ H bd = some (.dK kvs) ∧ TbIn H kvs x.tb
def StsIn (H : Hp) : List V → List Stq → Prop
  | [], [] => True
  | w :: ws, x :: xs => StqIn H w x ∧ StsIn H ws xs
  | _, _ => False
/-- tuples and dicts stay -/
structure Td (H H' : Hp) : Prop where
  t : Tu H H'
  d : ∀ a kvs, H a = some (.dK kvs) → H' a = some (.dK kvs)
theorem td_same {H H' : Hp} (s : Same H H') : Td H H' := ⟨tu_same s, fun a _ h => s a _ h⟩
theorem Td.trans {H H1 H2 : Hp} (a : Td H H1) (b : Td H1 H2) : Td H H2 := ⟨a.t.trans b.t, fun x k h => b.d x k (a.d x k h)⟩
theorem Td.refl (H : Hp) : Td H H := ⟨Tu.refl H, fun _ _ h => h⟩
/-- what happens to lists alone -/
theorem td_but {H H' : Hp} {p : Addr} {xs : List V} (b : But p H H') (h : H p = some (.lst xs)) : Td H H' :=
  ⟨but_tu b (lst_not_tup h), fun a k e => b a _ e fun z => by rw [z, h] at e; cases e⟩
theorem St.td {H H' : Hp} {s l : Addr} (h : St H s l) (b : But s H H') : Td H H' := by
  obtain ⟨_, _, _, q⟩ := h.lst
  exact td_but b q
theorem StqIn.td {H H' : Hp} {w : V} {x : Stq} (h : StqIn H w x) (t : Td H H') : StqIn H' w x := by
  obtain ⟨a, src, pa, bd, kvs, e, h1, h2, h3, h4, h5⟩ := h
  exact ⟨a, src, pa, bd, kvs, e, t.t _ _ h1, t.t _ _ h2, t.t _ _ h3, t.d _ _ h4, h5.tu t.t⟩
theorem StsIn.td {H H' : Hp} (t : Td H H') : ∀ {ws : List V} {xs : List Stq}, StsIn H ws xs → StsIn H' ws xs
  | [], [], _ => trivial
  | [], _ :: _, h => h.elim
  | _ :: _, [], h => h.elim
  | _ :: _, _ :: _, h => ⟨h.1.td t, StsIn.td t h.2⟩
theorem StsIn.snoc {H : Hp} {w : V} {x : Stq} (hw : StqIn H w x) : ∀ {ws : List V} {xs : List Stq}, StsIn H ws xs → StsIn H (ws ++ [w]) (xs ++ [x])
  | [], [], _ => ⟨hw, trivial⟩
  | [], _ :: _, h => h.elim
  | _ :: _, [], h => h.elim
  | _ :: _, _ :: _, h => ⟨h.1, StsIn.snoc hw h.2⟩
theorem StsIn.length {H : Hp} : ∀ {ws : List V} {xs : List Stq}, StsIn H ws xs → ws.length = xs.length
  | [], [], _ => rfl
  | [], _ :: _, h => h.elim
  | _ :: _, [], h => h.elim
  | _ :: _, _ :: _, h => congrArg (· + 1) (StsIn.length h.2)
theorem StsIn.get {H : Hp} : ∀ {ws : List V} {xs : List Stq} {i : Nat} {w : V}, StsIn H ws xs → ws[i]? = some w → ∃ x, xs[i]? = some x ∧ StqIn H w x
  | [], _, i, w, _, e => by simp at e
  | _ :: _, [], _, _, h, _ => h.elim
  | v :: ws, x :: xs, 0, w, h, e => ⟨x, rfl, (show v = w by simpa using e) ▸ h.1⟩
  | v :: ws, x :: xs, i + 1, w, h, e => by
    obtain ⟨y, h1, h2⟩ := StsIn.get h.2 (i := i) (w := w) (by simpa using e)
    exact ⟨y, by simpa using h1, h2⟩
theorem StsIn.of_get {H : Hp} : ∀ {ws : List V} {xs : List Stq}, ws.length = xs.length → (∀ (i : Nat) w x, ws[i]? = some w → xs[i]? = some x → StqIn H w x) → StsIn H ws xs
  | [], [], _, _ => trivial
  | [], _ :: _, h, _ => nomatch h
  | _ :: _, [], h, _ => nomatch h
  | _ :: _, _ :: _, h, f => ⟨f 0 _ _ rfl rfl, StsIn.of_get (Nat.succ.inj h) fun i w x e1 e2 => f (i + 1) w x e1 e2⟩
theorem StsIn.rev {H : Hp} : ∀ {ws : List V} {xs : List Stq}, StsIn H ws xs → StsIn H ws.reverse xs.reverse
  | [], [], _ => trivial
  | [], _ :: _, h => h.elim
  | _ :: _, [], h => h.elim
  | _ :: _, _ :: _, h => by rw [List.reverse_cons, List.reverse_cons]; exact (StsIn.rev h.2).snoc h.1
/-! ### the data that repr shows -/
def stqD (x : Stq) : PyData := .tuple [.tuple [.str x.kd, .int x.k], .bool x.fwd, .tuple (x.q.map PyData.int), tbD x.tb]
def stsD (xs : List Stq) : PyData := .list (xs.map stqD)
theorem ReadsAll.app1 {h : Heap} {v : Value} {d : PyData} {as : List Addr} (r : Reads h v d as) : ReadsAll h [v] [d] (as ++ []) := .cons r .nil
section
variable {X : Cx} {pins : List (Addr × Obj)} {σ : L2.St} {H : Hp} {s : Shared}
theorem ints_reads (h : Heap) : ∀ (l : List Int) (us : List Value), Vals (l.map V.int) us → ReadsAll h us (l.map PyData.int) []
  | [], us, r => by cases r; exact ReadsAll.nil
  | n :: l, us, r => by
    cases r with
    | cons r1 rr =>
      obtain ⟨t, rfl⟩ := r1
      exact ReadsAll.cons (as := []) (Reads.int n t) (ints_reads h l _ rr)
theorem stq_reads (I : Inv X pins σ H s) {w : V} {x : Stq} {u : Value} (h : StqIn H w x) (r : RelV w u) : ∃ as, Reads s.heap u (stqD x) as ∧ sysModules ∉ as := by
  obtain ⟨a, src, pa, bd, kvs, rfl, ha, hs, hp, hb, ht⟩ := h
  cases (show u = .ref a from r)
  obtain ⟨its, rv, ⟨o, e, hc, n, hd⟩, _⟩ := I.tuple (SqT.of ha)
  obtain ⟨its2, rv2, ⟨o2, e2, hc2, n2, hd2⟩, _⟩ := I.tuple (SqT.of hs)
  obtain ⟨its3, rv3, ⟨o3, e3, hc3, n3, hd3⟩, _⟩ := I.tuple (SqT.of hp)
  obtain ⟨_, hS, vs, k, o4, es, ep, e4, ⟨hc4, _, _⟩, hd4, _, pr, _⟩ := dk_of I.hok hb
  have rd : Reads s.heap (.ref bd) (tbD x.tb) (bd :: [] ++ []) := Reads.dict e4 hc4 hd4 (tb_keys s.heap ht k pr) (tb_vals I ht k pr)
  have rs : Reads s.heap (.ref src) (.tuple [.str x.kd, .int x.k]) [] := Reads.tuple e2 hc2 hd2 (by
    cases rv2 with
    | cons r1 rr =>
      cases rr with
      | cons r2 rr =>
        cases rr
        obtain ⟨tk, rfl⟩ := r1
        obtain ⟨t, rfl⟩ := r2
        exact ReadsAll.cons (as := []) (Reads.str x.kd tk) (ReadsAll.cons (as := []) (Reads.int x.k t) ReadsAll.nil))
  have rp : Reads s.heap (.ref pa) (.tuple (x.q.map PyData.int)) [] := Reads.tuple e3 hc3 hd3 (ints_reads _ _ _ rv3)
  refine ⟨[] ++ ([] ++ ([] ++ ((bd :: [] ++ []) ++ []))), Reads.tuple e hc hd ?_, fun z => ?_⟩
  · cases rv with
    | cons r1 rr =>
      cases rr with
      | cons r2 rr =>
        cases rr with
        | cons r3 rr =>
          cases rr with
          | cons r4 rr =>
            cases rr
            cases r1; cases r2; cases r3; cases r4
            exact ReadsAll.cons rs (ReadsAll.cons (Reads.bool x.fwd) (ReadsAll.cons rp (ReadsAll.cons rd ReadsAll.nil)))
  · have z : sysModules ∈ [bd] := by simpa using z
    rw [List.mem_singleton.mp z, beq_self_eq_true] at hS
    cases hS
theorem sts_reads (I : Inv X pins σ H s) : ∀ {ws : List V} {xs : List Stq} {us : List Value}, StsIn H ws xs → Vals ws us → ∃ as, ReadsAll s.heap us (xs.map stqD) as ∧ sysModules ∉ as
  | [], [], _, _, r => by cases r; exact ⟨_, ReadsAll.nil, List.not_mem_nil⟩
  | [], _ :: _, _, h, _ => h.elim
  | _ :: _, [], _, h, _ => h.elim
  | w :: ws, x :: xs, _, h, r => by
    cases r with
    | cons r1 rr =>
      obtain ⟨as, h1, n1⟩ := stq_reads I h.1 r1
      obtain ⟨bs, h2, n2⟩ := sts_reads I h.2 rr
      exact ⟨_, ReadsAll.cons h1 h2, fun z => (List.mem_append.mp z).elim n1 n2⟩
/-- what is known of a step that may be shown -/
structure StqOk (fs : List Str) (B : Int) (x : Stq) : Prop where
  k : x.k.natAbs < 10000
  kd : x.kd.length ≤ 10
  kc : ∀ c ∈ x.kd.cps.toList, c < 16 ^ 8
  ql : x.q.length ≤ 60
  qi : ∀ n ∈ x.q, n.natAbs < 10000
  tl : x.tb.length ≤ 10
  nd : (x.tb.map (·.1)).Nodup
  tb : ∀ y ∈ x.tb, y.1.natAbs < 10000 ∧ y.2.wf fs B ∧ y.2.sz ≤ 1000 ∧ y.2.dep ≤ 50
theorem stqD_shw {fs : List Str} {B : Int} (hn : Names fs) (hB : B ≤ 1000) {x : Stq} (o : StqOk fs B x) : (stqD x).showable = true ∧ (stqD x).depth ≤ 52 ∧ (stqD x).shown.length ≤ 905000 := by
  obtain ⟨a1, a2, a3, a4⟩ := tbD_shw hn hB x.tb o.tb
  have h1 := shw_str (x := x.kd) o.kc
  have h2 := shw_int (i := x.k) (Nat.lt_trans o.k (by decide))
  have hs : Shw 1 1000 (.tuple [.str x.kd, .int x.k]) := (shw_tuple (D := 0) (B := 102) fun d hd => by
    rcases List.mem_cons.mp hd with e | hd
    · rw [e]; exact h1.mono (Nat.le_refl _) (by have := o.kd; omega)
    · rw [List.mem_singleton.mp hd]; exact h2.mono (Nat.le_refl _) (by decide)).mono (Nat.le_refl _) (by show (102 + 2) * 2 + 3 ≤ 1000; decide)
  have hp : Shw 1 1000 (.tuple (x.q.map PyData.int)) := (shw_tuple (D := 0) (B := 13) fun d hd => by
    obtain ⟨n, hn, rfl⟩ := List.mem_map.mp hd
    exact shw_int (Nat.lt_trans (o.qi n hn) (by decide))).mono (Nat.le_refl _) (by rw [List.length_map]; have := o.ql; omega)
  have hd : (tbD x.tb).showable = true ∧ (tbD x.tb).depth ≤ 51 ∧ (tbD x.tb).shown.length ≤ 902000 := by
    refine ⟨a1, Nat.succ_le_succ a2, Nat.le_trans (dictText_len_le _) ?_⟩
    rw [a4]
    have := o.tl
    omega
  have hbl : (PyData.bool x.fwd).showable = true ∧ (PyData.bool x.fwd).depth = 0 ∧ (PyData.bool x.fwd).shown.length ≤ 10 := by
    cases x.fwd <;> exact ⟨rfl, rfl, by decide +kernel⟩
  refine ⟨?_, ?_, ?_⟩
  · show ((PyData.tuple [.str x.kd, .int x.k]).showable && ((PyData.bool x.fwd).showable && ((PyData.tuple (x.q.map PyData.int)).showable && ((tbD x.tb).showable && true)))) = true
    rw [hs.sh, hbl.1, hp.sh, hd.1]; rfl
  · show max (PyData.tuple [.str x.kd, .int x.k]).depth (max (PyData.bool x.fwd).depth (max (PyData.tuple (x.q.map PyData.int)).depth (max (tbD x.tb).depth 0))) + 1 ≤ 52
    have := hs.dp; have := hp.dp; have := hd.2.1; have := hbl.2.1
    omega
  · have h3 := tupleText_len_le (PyData.shownAll [.tuple [.str x.kd, .int x.k], .bool x.fwd, .tuple (x.q.map PyData.int), tbD x.tb])
    have e1 : ((PyData.shownAll [.tuple [.str x.kd, .int x.k], .bool x.fwd, .tuple (x.q.map PyData.int), tbD x.tb]).map (·.length)).sum = (PyData.tuple [.str x.kd, .int x.k]).shown.length + ((PyData.bool x.fwd).shown.length + ((PyData.tuple (x.q.map PyData.int)).shown.length + ((tbD x.tb).shown.length + 0))) := rfl
    have e2 : (PyData.shownAll [.tuple [.str x.kd, .int x.k], .bool x.fwd, .tuple (x.q.map PyData.int), tbD x.tb]).length = 4 := rfl
    show (tupleText (PyData.shownAll [.tuple [.str x.kd, .int x.k], .bool x.fwd, .tuple (x.q.map PyData.int), tbD x.tb])).length ≤ 905000
    have := hs.ln; have := hp.ln; have := hd.2.2; have := hbl.2.2
    omega
theorem stsD_shw {fs : List Str} {B : Int} (hn : Names fs) (hB : B ≤ 1000) : ∀ xs : List Stq, (∀ x ∈ xs, StqOk fs B x) → PyData.showableAll (xs.map stqD) = true ∧ PyData.depthAll (xs.map stqD) ≤ 52 ∧ ((PyData.shownAll (xs.map stqD)).map (·.length)).sum ≤ 905000 * xs.length ∧ (PyData.shownAll (xs.map stqD)).length = xs.length
  | [], _ => ⟨rfl, Nat.zero_le _, Nat.zero_le _, rfl⟩
  | x :: xs, h => by
    obtain ⟨a, b, c, d⟩ := stsD_shw hn hB xs fun y hy => h y (List.mem_cons_of_mem _ hy)
    obtain ⟨h1, h2, h3⟩ := stqD_shw hn hB (h x (List.mem_cons_self ..))
    refine ⟨by show ((stqD x).showable && PyData.showableAll (xs.map stqD)) = true; rw [h1, a]; rfl, by show max (stqD x).depth (PyData.depthAll (xs.map stqD)) ≤ 52; omega, ?_, congrArg (· + 1) d⟩
    show (stqD x).shown.length + ((PyData.shownAll (xs.map stqD)).map (·.length)).sum ≤ 905000 * (xs.length + 1)
    omega
/-- repr of a list of steps -/
def rShowS (X : Cx) : List V → Hp → VK → Prop := fun vs H Q => X.A.guards = some [] ∧ ∃ a ws xs fs, ∃ B : Int, vs = [.ref a] ∧ H a = some (.lst ws) ∧ StsIn H ws xs ∧ Names fs ∧ B ≤ 1000 ∧ (∀ x ∈ xs, StqOk fs B x) ∧ xs.length ≤ 18 ∧ Q (.str (stsD xs).shown) H
theorem call_showS (hu : X.A.units + 64 < cLine) (hb : (X.base.get? sysModules).isSome = true) : CallR X (.builtin "repr") (rShowS X) := by
  intro pins s σ H vs us Q I r h
  obtain ⟨hg, a, ws, xs, fs, B, rfl, ha, hst, hn, hB, hx, hz, q⟩ := h
  obtain ⟨a1, a2, a3, a4⟩ := stsD_shw hn hB xs hx
  cases r with
  | cons r rr =>
    cases rr
    cases r
    obtain ⟨_, vs, n, rv, e⟩ : _ := I.hok a _ ha
    obtain ⟨as, rd, ns⟩ := sts_reads I hst (us := vs) rv
    have hS : sysModules ≠ a := fun z => by
      obtain ⟨o, eo⟩ := Option.isSome_iff_exists.mp hb
      have := (I.bs _ _ eo).2
      rw [z, ha] at this; cases this
    have rd' : Reads s.heap (.ref a) (stsD xs) (a :: as) := Reads.list e rfl rfl (by simpa using rd)
    have hln : (stsD xs).shown.length ≤ sizeLine := by
      refine Nat.le_trans (listText_len_le _) (Nat.le_trans (show _ ≤ 16400000 from ?_) (by decide))
      rw [a4]; omega
    have hdp : (stsD xs).depth ≤ 53 := Nat.succ_le_succ a2
    refine repr_of_reads' rd' a1 (fun _ z => ?_) hg (by omega) (fun _ _ e => e) (fun h' u tk hk => ⟨.str (stsD xs).shown, H, I.kept hk, ⟨u, rfl⟩, q⟩) hln
    rcases List.mem_cons.mp z with z | z
    · exact hS z
    · exact ns z
/-- dict(d) -/
def rDictC : List V → Hp → VK → Prop := fun vs H Q => ∃ a kvs, vs = [.ref a] ∧ H a = some (.dK kvs) ∧ ∀ p, H p = none → Q (.ref p) (upd H p (.dK kvs))
theorem call_dictC : CallR X (.type "dict") rDictC := by
  intro pins s σ H vs us Q I r h
  obtain ⟨a, kvs, rfl, ha, q⟩ := h
  cases r with
  | cons r rr =>
    cases rr
    cases r
    exact d_copyOf I (.inl ha) fun p s' hp I' => ⟨.ref p, _, I', rfl, q p hp⟩
end
/-! ### chains -/
/-- a link of a chain: the step, its equation, the term behind it -/
structure Lnk where
  st : Stq
  L : Tm
  R : Tm
  t : Tm
def Chn (fs : List Str) : Tm → List Lnk → Prop
  | _, [] => True
  | t, x :: r => Stp fs t x.t x.st.fwd x.st.q x.st.tb x.L x.R ∧ Chn fs x.t r
def lastT : Tm → List Lnk → Tm
  | t, [] => t
  | _, x :: r => lastT x.t r
theorem lastT_snoc : ∀ (r : List Lnk) (t : Tm) (x : Lnk), lastT t (r ++ [x]) = x.t
  | [], _, _ => rfl
  | _ :: r, _, x => lastT_snoc r _ x
theorem Chn.snoc {fs : List Str} {x : Lnk} : ∀ {r : List Lnk} {t : Tm}, Chn fs t r → Stp fs (lastT t r) x.t x.st.fwd x.st.q x.st.tb x.L x.R → Chn fs t (r ++ [x])
  | [], _, _, h => ⟨h, trivial⟩
  | _ :: _, _, h, g => ⟨h.1, Chn.snoc h.2 g⟩
theorem Chn.last {fs : List Str} : ∀ {r : List Lnk} {t : Tm}, Chn fs t r → t.wf fs 9 → (lastT t r).wf fs 9 ∧ (lastT t r).sz ≤ t.sz + 16 * r.length ∧ (lastT t r).dep ≤ t.dep + 4 * r.length
  | [], t, _, w => ⟨w, Nat.le_refl _, Nat.le_refl _⟩
  | x :: r, t, h, w => by
    obtain ⟨a, b, c⟩ := Chn.last h.2 h.1.w'
    have := h.1.z'
    have := h.1.d'
    show (lastT x.t r).wf fs 9 ∧ (lastT x.t r).sz ≤ t.sz + 16 * (r.length + 1) ∧ (lastT x.t r).dep ≤ t.dep + 4 * (r.length + 1)
    exact ⟨a, by omega, by omega⟩
/-- equations in the heap -/
def EqnIn (H : Hp) (w : V) (L R : Tm) : Prop := ∃ (e : Addr) (lv rv : V), w = .ref e ∧ H e = some (.tup [lv, rv]) ∧ TmIn H L lv ∧ TmIn H R rv
theorem EqnIn.tu {H H' : Hp} {w : V} {L R : Tm} (h : EqnIn H w L R) (t : Tu H H') : EqnIn H' w L R := by
  obtain ⟨e, lv, rv, e1, h1, h2, h3⟩ := h
  exact ⟨e, lv, rv, e1, t _ _ h1, h2.tu t, h3.tu t⟩
def EqsIn (H : Hp) : List V → List Lnk → Prop
  | [], [] => True
  | w :: ws, x :: xs => EqnIn H w x.L x.R ∧ EqsIn H ws xs
  | _, _ => False
theorem EqsIn.tu {H H' : Hp} (t : Tu H H') : ∀ {ws : List V} {xs : List Lnk}, EqsIn H ws xs → EqsIn H' ws xs
  | [], [], _ => trivial
  | [], _ :: _, h => h.elim
  | _ :: _, [], h => h.elim
  | _ :: _, _ :: _, h => ⟨h.1.tu t, EqsIn.tu t h.2⟩
theorem EqsIn.snoc {H : Hp} {w : V} {x : Lnk} (hw : EqnIn H w x.L x.R) : ∀ {ws : List V} {xs : List Lnk}, EqsIn H ws xs → EqsIn H (ws ++ [w]) (xs ++ [x])
  | [], [], _ => ⟨hw, trivial⟩
  | [], _ :: _, h => h.elim
  | _ :: _, [], h => h.elim
  | _ :: _, _ :: _, h => ⟨h.1, EqsIn.snoc hw h.2⟩
theorem EqsIn.length {H : Hp} : ∀ {ws : List V} {xs : List Lnk}, EqsIn H ws xs → ws.length = xs.length
  | [], [], _ => rfl
  | [], _ :: _, h => h.elim
  | _ :: _, [], h => h.elim
  | _ :: _, _ :: _, h => congrArg (· + 1) (EqsIn.length h.2)
theorem EqsIn.get' {H : Hp} : ∀ {ws : List V} {xs : List Lnk} {i : Nat} {x : Lnk}, EqsIn H ws xs → xs[i]? = some x → ∃ w, ws[i]? = some w ∧ EqnIn H w x.L x.R
  | _, [], i, x, _, e => by simp at e
  | [], _ :: _, _, _, h, _ => h.elim
  | v :: ws, y :: xs, 0, x, h, e => ⟨v, rfl, (show y = x by simpa using e) ▸ h.1⟩
  | v :: ws, y :: xs, i + 1, x, h, e => by
    obtain ⟨w, h1, h2⟩ := EqsIn.get' h.2 (i := i) (x := x) (by simpa using e)
    exact ⟨w, by simpa using h1, h2⟩
end J

namespace J
open PySem L2
/-! ### while xs:, the measure told by the invariant -/
theorem least_of (P : Nat → Prop) (h : ∃ m, P m) : ∃ m, P m ∧ ∀ k, P k → m ≤ k := by
  obtain ⟨m, hm⟩ := h
  induction m using Nat.strongRecOn with
  | _ m ih =>
    by_cases z : ∃ k, k < m ∧ P k
    · obtain ⟨k, hk, pk⟩ := z
      exact ih k hk pk
    · exact ⟨m, hm, fun k pk => Nat.le_of_not_lt fun hk => z ⟨k, hk, pk⟩⟩
open Classical in
noncomputable def mu (P : Nat → L2.St → Hp → Prop) (σ : L2.St) (H : Hp) : Nat := if h : ∃ m, P m σ H then Classical.choose (least_of _ h) else 0
theorem mu_at {P : Nat → L2.St → Hp → Prop} {σ : L2.St} {H : Hp} (h : ∃ m, P m σ H) : P (mu P σ H) σ H := by
  unfold mu
  rw [dif_pos h]
  exact (Classical.choose_spec (least_of _ h)).1
theorem mu_le {P : Nat → L2.St → Hp → Prop} {σ : L2.St} {H : Hp} {m : Nat} (h : P m σ H) : mu P σ H ≤ m := by
  unfold mu
  rw [dif_pos ⟨m, h⟩]
  exact (Classical.choose_spec (least_of _ ⟨m, h⟩)).2 m h
/-- what a turn leaves -/
def WLess (P : Nat → L2.St → Hp → Prop) (m : Nat) (σ : L2.St) (H : Hp) : Prop := (∃ k, P k σ H) ∧ mu P σ H < m
theorem less_of {P : Nat → L2.St → Hp → Prop} {m k : Nat} {σ : L2.St} {H : Hp} (h : P k σ H) (hk : k < m) : WLess P m σ H := ⟨⟨k, h⟩, Nat.lt_of_le_of_lt (mu_le h) hk⟩
theorem while_listM {K : PySem.W.Frag} {i : Nat} {tb : TS} {D : Ends} {σ : L2.St} {H : Hp} (P : Nat → L2.St → Hp → Prop) (m0 : Nat) (h0 : P m0 σ H)
    (hs : ∀ m σ H, P m σ H → ∃ p xs, σ[i]? = some (some (.ref p)) ∧ H p = some (.lst xs) ∧ (xs = [] → D.nx σ H) ∧ (xs ≠ [] → tb { D with nx := WLess P m, ct := WLess P m, bk := D.nx } σ H)) :
    tWhile (fun σ H Q => tVar i σ H fun x H' => ∃ k, TruV K x H' k ∧ Q k H') tb D σ H :=
  while_list (fun σ H => ∃ m, P m σ H) (mu P) ⟨m0, h0⟩ fun σ H p => hs _ σ H (mu_at p)
end J

/-! ### list(zip(a, b)) over two lists or two tuples -/
namespace J
open PySem PySem.Calls PySem.Spec PyProof.Rows PyProof.V L2 PySem.W
section
variable {prog : Program} {w : World} {A : Around} {E : Value → Shared → Prop} {s : Shared}
theorem zipT_next_item_held {z TI TO T i1 i2 l1 l2 : Addr} {f : Bool} {oT : Obj} {k1 k2 : Nat} {xs ys : Array Value} {x y : Value} {Q : Value → Shared → Prop} (D : ZipApart z TI TO i1 i2 l1 l2)
    (hz : IsZipHeld s.heap z TI TO T f) (hT : s.heap.get? T = some oT) (hTI : IsPair s.heap TI (.ref i1) (.ref i2))
    (h1 : s.heap.IsTupleIter i1 l1 k1) (h2 : s.heap.IsTupleIter i2 l2 k2) (hl1 : s.heap.IsTuple l1 xs) (hl2 : s.heap.IsTuple l2 ys) (hx : xs[k1]? = some x) (hy : ys[k2]? = some y)
    (hQ : ∀ h', IsZipHeld h' z TI TO T true → h'.IsTupleIter i1 l1 (k1 + 1) → h'.IsTupleIter i2 l2 (k2 + 1) → IsPair h' s.heap.objs.size x y → h'.objs.size = s.heap.objs.size + 1 →
      (∀ c o, c ≠ z → c ≠ i1 → c ≠ i2 → s.heap.get? c = some o → h'.get? c = some o) → Q (.ref s.heap.objs.size) { s with heap := h' }) :
    wpAny (model prog w) A (Builtin.«zip.__next__» ⟨[.ref z], []⟩) (fun fin s' => ∃ v, fin = .done (.ret v) ∧ Q v s') E s := by
  show wpAny _ _ (field (.ref z) 2 >>= _) _ _ _
  refine wpAny_bind (wpAny_field hz rfl (x := .bool false) rfl ?_)
  show wpAny _ _ (field (.ref z) 3 >>= _) _ _ _
  refine wpAny_bind (wpAny_field hz rfl (x := .ref TI) rfl ?_)
  refine wpAny_bind (wpAny_seqItems hTI rfl ?_)
  show wpAny _ _ (Builtin.SmallTypes.ownedTupleIsFree (.ref z) >>= _) _ _ _
  refine wpAny_bind (wpAny_tupleHeld_zip hz hT fun h₁ hz₁ hs₁ => ?_)
  simp only [Bool.false_eq_true, if_false]
  refine wpAny_bind ?_
  rw [← Array.forIn_toList]
  simp only [List.forIn_cons, List.forIn_nil]
  refine wpAny_bind (wpAny_bind (wpAny_holding ?_))
  show wpAny _ _ (Builtin.SmallTypes.nextOf (.ref i1) >>= _) _ _ _
  refine wpAny_bind (RZ.nextOf_tuple_item (s := { s with heap := h₁ }) (h1.extBut hs₁.extBut D.i1z) (hl1.extBut hs₁.extBut D.l1z) hx fun h₂ h1₂ hs₂ => wpAny_pure ?_)
  refine wpAny_pure ?_
  refine wpAny_bind (wpAny_bind (wpAny_holding ?_))
  show wpAny _ _ (Builtin.SmallTypes.nextOf (.ref i2) >>= _) _ _ _
  refine wpAny_bind (RZ.nextOf_tuple_item (s := { s with heap := h₂ }) ((h2.extBut hs₁.extBut D.i2z).extBut hs₂.extBut D.i12.symm) ((hl2.extBut hs₁.extBut D.l2z).extBut hs₂.extBut D.l2i1) hy fun h₃ h2₃ hs₃ => wpAny_pure ?_)
  refine wpAny_pure (wpAny_pure ?_)
  show wpAny _ _ (newTuple [x, y] >>= _) _ _ _
  refine wpAny_bind (wpAny_newTuple ?_)
  have hsz : h₃.objs.size = s.heap.objs.size := by rw [hs₃.1, hs₂.1, hs₁.1]
  have hz₃ : IsZipHeld h₃ z TI TO T true := hs₃.extBut _ _ D.i2z.symm (hs₂.extBut _ _ D.i1z.symm hz₁)
  have hk : ∀ c o, c ≠ z → c ≠ i1 → c ≠ i2 → s.heap.get? c = some o → h₃.get? c = some o := fun c o c1 c2 c3 e => hs₃.extBut _ _ c3 (hs₂.extBut _ _ c2 (hs₁.extBut _ _ c1 e))
  have h1₃ : h₃.IsTupleIter i1 l1 (k1 + 1) := h1₂.extBut hs₃.extBut D.i12
  refine wpAny_pure ⟨_, rfl, ?_⟩
  show Q (.ref h₃.objs.size) _
  have hp : IsPair (h₃.push { cls := .type "tuple", data := .seq #[x, y] }) h₃.objs.size x y := Heap.get?_push_size _ rfl
  have hz4 : (h₃.push { cls := .type "tuple", data := .seq #[x, y] }).objs.size = h₃.objs.size + 1 := Heap.size_push ..
  rw [hsz] at hp hz4 ⊢
  exact hQ _ (Heap.get?_push_of_some _ hz₃) (h1₃.at fun o e => Heap.get?_push_of_some _ e) (h2₃.at fun o e => Heap.get?_push_of_some _ e) hp hz4 fun c o c1 c2 c3 e => Heap.get?_push_of_some _ (hk c o c1 c2 c3 e)
theorem zipT_next_end_held {z TI TO T i1 i2 l1 l2 : Addr} {f : Bool} {oT : Obj} {k1 k2 : Nat} {xs ys : Array Value} {Q : PySem.Fin → Shared → Prop} (hh : A.handled = none) (D : ZipApart z TI TO i1 i2 l1 l2)
    (hz : IsZipHeld s.heap z TI TO T f) (hT : s.heap.get? T = some oT) (hTI : IsPair s.heap TI (.ref i1) (.ref i2))
    (h1 : s.heap.IsTupleIter i1 l1 k1) (h2 : s.heap.IsTupleIter i2 l2 k2) (hl1 : s.heap.IsTuple l1 xs) (hl2 : s.heap.IsTuple l2 ys) (hend : xs[k1]? = none ∨ ys[k2]? = none)
    (hE : ∀ h' e, (∀ c o, c ≠ z → c ≠ i1 → c ≠ i2 → s.heap.get? c = some o → h'.get? c = some o) → (∃ o, h'.get? e = some o ∧ o.cls = .type "StopIteration") → E (.ref e) { s with heap := h' }) :
    wpAny (model prog w) A (Builtin.«zip.__next__» ⟨[.ref z], []⟩) Q E s := by
  show wpAny _ _ (field (.ref z) 2 >>= _) _ _ _
  refine wpAny_bind (wpAny_field hz rfl (x := .bool false) rfl ?_)
  show wpAny _ _ (field (.ref z) 3 >>= _) _ _ _
  refine wpAny_bind (wpAny_field hz rfl (x := .ref TI) rfl ?_)
  refine wpAny_bind (wpAny_seqItems hTI rfl ?_)
  show wpAny _ _ (Builtin.SmallTypes.ownedTupleIsFree (.ref z) >>= _) _ _ _
  refine wpAny_bind (wpAny_tupleHeld_zip hz hT fun h₁ hz₁ hs₁ => ?_)
  simp only [Bool.false_eq_true, if_false]
  refine wpAny_bind ?_
  rw [← Array.forIn_toList]
  simp only [List.forIn_cons, List.forIn_nil]
  refine wpAny_bind (wpAny_bind (wpAny_holding ?_))
  show wpAny _ _ (Builtin.SmallTypes.nextOf (.ref i1) >>= _) _ _ _
  cases hx : xs[k1]? with
  | none =>
    refine wpAny_bind (RZ.nextOf_tuple_end (s := { s with heap := h₁ }) hh (h1.extBut hs₁.extBut D.i1z) (hl1.extBut hs₁.extBut D.l1z) hx fun h₂ e hs₂ he => ?_)
    exact hE h₂ e (fun c o c1 c2 _ x => hs₂ _ _ c2 (hs₁.extBut _ _ c1 x)) he
  | some x =>
    have hy : ys[k2]? = none := by rcases hend with h | h; rw [hx] at h; cases h; exact h
    refine wpAny_bind (RZ.nextOf_tuple_item (s := { s with heap := h₁ }) (h1.extBut hs₁.extBut D.i1z) (hl1.extBut hs₁.extBut D.l1z) hx fun h₂ h1₂ hs₂ => wpAny_pure ?_)
    refine wpAny_pure ?_
    refine wpAny_bind (wpAny_bind (wpAny_holding ?_))
    show wpAny _ _ (Builtin.SmallTypes.nextOf (.ref i2) >>= _) _ _ _
    refine wpAny_bind (RZ.nextOf_tuple_end (s := { s with heap := h₂ }) hh ((h2.extBut hs₁.extBut D.i2z).extBut hs₂.extBut D.i12.symm) ((hl2.extBut hs₁.extBut D.l2z).extBut hs₂.extBut D.l2i1) hy fun h₃ e hs₃ he => ?_)
    exact hE h₃ e (fun c o c1 c2 c3 x => hs₃ _ _ c3 (hs₂.extBut _ _ c2 (hs₁.extBut _ _ c1 x))) he
theorem pyNext_zipT_item_held {z TI TO T i1 i2 l1 l2 : Addr} {f : Bool} {oT : Obj} {k1 k2 : Nat} {xs ys : Array Value} {x y : Value} {Q : Option Value → Shared → Prop} (D : ZipApart z TI TO i1 i2 l1 l2)
    (hz : IsZipHeld s.heap z TI TO T f) (hT : s.heap.get? T = some oT) (hTI : IsPair s.heap TI (.ref i1) (.ref i2))
    (h1 : s.heap.IsTupleIter i1 l1 k1) (h2 : s.heap.IsTupleIter i2 l2 k2) (hl1 : s.heap.IsTuple l1 xs) (hl2 : s.heap.IsTuple l2 ys) (hx : xs[k1]? = some x) (hy : ys[k2]? = some y)
    (hQ : ∀ h', IsZipHeld h' z TI TO T true → h'.IsTupleIter i1 l1 (k1 + 1) → h'.IsTupleIter i2 l2 (k2 + 1) → IsPair h' s.heap.objs.size x y → h'.objs.size = s.heap.objs.size + 1 →
      (∀ c o, c ≠ z → c ≠ i1 → c ≠ i2 → s.heap.get? c = some o → h'.get? c = some o) → Q (some (.ref s.heap.objs.size)) { s with heap := h' }) :
    wpAny (model prog w) A (pyNext (.ref z)) Q E s := by
  have hTy : s.TypeIs (.ref z) "zip" := ⟨_, hz, rfl⟩
  unfold pyNext
  exact wpAny_bind (wpAny_attempt (wpAny_callSpecial?_slot (name := Str.ofString "__next__") hTy F.slot_zip_next
    (wpAny_call_entry F.slot_zip_next hTy F.entry_zip_next
      (zipT_next_item_held D hz hT hTI h1 h2 hl1 hl2 hx hy fun h' a1 a3 a4 a5 a6 a7 => wpAny_pure (hQ h' a1 a3 a4 a5 a6 a7)) (F.args_zip_next_1 _))))
theorem pyNext_zipT_end_held {z TI TO T i1 i2 l1 l2 : Addr} {f : Bool} {oT : Obj} {k1 k2 : Nat} {xs ys : Array Value} {Q : Option Value → Shared → Prop} (hh : A.handled = none) (D : ZipApart z TI TO i1 i2 l1 l2)
    (hz : IsZipHeld s.heap z TI TO T f) (hT : s.heap.get? T = some oT) (hTI : IsPair s.heap TI (.ref i1) (.ref i2))
    (h1 : s.heap.IsTupleIter i1 l1 k1) (h2 : s.heap.IsTupleIter i2 l2 k2) (hl1 : s.heap.IsTuple l1 xs) (hl2 : s.heap.IsTuple l2 ys) (hend : xs[k1]? = none ∨ ys[k2]? = none)
    (hQ : ∀ h', (∀ c o, c ≠ z → c ≠ i1 → c ≠ i2 → s.heap.get? c = some o → h'.get? c = some o) → Q none { s with heap := h' }) : wpAny (model prog w) A (pyNext (.ref z)) Q E s := by
  have hTy : s.TypeIs (.ref z) "zip" := ⟨_, hz, rfl⟩
  unfold pyNext
  refine wpAny_bind (wpAny_attempt (wpAny_callSpecial?_slot (name := Str.ofString "__next__") hTy F.slot_zip_next
    (wpAny_call_entry F.slot_zip_next hTy F.entry_zip_next (zipT_next_end_held hh D hz hT hTI h1 h2 hl1 hl2 hend fun h' e hk he => ?_) (F.args_zip_next_1 _))))
  obtain ⟨o, ho, hc⟩ := he
  refine wpAny_bind (wpAny_isInstance (T := "StopIteration") (b := true) ⟨o, ho, hc⟩ isSubtype_stop ?_)
  exact wpAny_pure (hQ _ hk)
/-- two lists, or two tuples, and their iterators at the k-th place -/
def SeqsAt (h : Heap) (i1 i2 l1 l2 : Addr) (xs ys : Array Value) (k : Nat) : Prop :=
  (h.IsListIter i1 l1 k ∧ h.IsListIter i2 l2 k ∧ h.IsList l1 xs ∧ h.IsList l2 ys) ∨ (h.IsTupleIter i1 l1 k ∧ h.IsTupleIter i2 l2 k ∧ h.IsTuple l1 xs ∧ h.IsTuple l2 ys)
theorem SeqsAt.at {h h' : Heap} {i1 i2 l1 l2 : Addr} {xs ys : Array Value} {k : Nat} (x : SeqsAt h i1 i2 l1 l2 xs ys k) (hk : ∀ b o, b ∈ [i1, i2, l1, l2] → h.get? b = some o → h'.get? b = some o) : SeqsAt h' i1 i2 l1 l2 xs ys k := by
  rcases x with ⟨a, b, c, d⟩ | ⟨a, b, c, d⟩
  · exact .inl ⟨a.at fun o e => hk _ o (by simp) e, b.at fun o e => hk _ o (by simp) e, c.at fun o e => hk _ o (by simp) e, d.at fun o e => hk _ o (by simp) e⟩
  · exact .inr ⟨a.at fun o e => hk _ o (by simp) e, b.at fun o e => hk _ o (by simp) e, c.at fun o e => hk _ o (by simp) e, d.at fun o e => hk _ o (by simp) e⟩
theorem SeqsAt.there {h : Heap} {i1 i2 l1 l2 : Addr} {xs ys : Array Value} {k : Nat} (x : SeqsAt h i1 i2 l1 l2 xs ys k) : (∃ o, h.get? i1 = some o) ∧ (∃ o, h.get? i2 = some o) := by
  rcases x with ⟨⟨o1, e1, _⟩, ⟨o2, e2, _⟩, _⟩ | ⟨⟨o1, e1, _⟩, ⟨o2, e2, _⟩, _⟩
  · exact ⟨⟨_, e1⟩, ⟨_, e2⟩⟩
  · exact ⟨⟨_, e1⟩, ⟨_, e2⟩⟩
/-- a zip ahead of its k-th turn; what it gave out stands, and is not S -/
def ZSt (z TI TO i1 i2 l1 l2 S : Addr) (xs ys : Array Value) (k : Nat) (h : Heap) : Prop :=
  IsPair h TI (.ref i1) (.ref i2) ∧ SeqsAt h i1 i2 l1 l2 xs ys k ∧ ((IsZip h z TI TO .none ∧ ∃ a b, IsPair h TO a b) ∨ ∃ T f oT, IsZipHeld h z TI TO T f ∧ h.get? T = some oT ∧ T ≠ z ∧ T ≠ i1 ∧ T ≠ i2 ∧ T ≠ S)
theorem ZSt.keep {z TI TO i1 i2 l1 l2 S : Addr} {xs ys : Array Value} {k : Nat} {h h' : Heap} (x : ZSt z TI TO i1 i2 l1 l2 S xs ys k h) (hS : S ∉ [z, TI, TO, i1, i2, l1, l2]) (hk : ∀ b o, b ≠ S → h.get? b = some o → h'.get? b = some o) : ZSt z TI TO i1 i2 l1 l2 S xs ys k h' := by
  simp only [List.mem_cons, List.not_mem_nil, or_false, not_or] at hS
  obtain ⟨dz, dTI, dTO, d1, d2, d3, d4⟩ := hS
  obtain ⟨hTI, hs, hz⟩ := x
  refine ⟨hk _ _ (Ne.symm dTI) hTI, hs.at fun b o hb e => hk b o (fun z => ?_) e, ?_⟩
  · simp only [List.mem_cons, List.not_mem_nil, or_false] at hb
    rcases hb with q | q | q | q
    · exact d1 (z.symm.trans q)
    · exact d2 (z.symm.trans q)
    · exact d3 (z.symm.trans q)
    · exact d4 (z.symm.trans q)
  · rcases hz with ⟨hz, a, b, hTO⟩ | ⟨T, f, oT, hz, hT, r1, r2, r3, r4⟩
    · exact .inl ⟨hk _ _ (Ne.symm dz) hz, a, b, hk _ _ (Ne.symm dTO) hTO⟩
    · exact .inr ⟨T, f, oT, hk _ _ (Ne.symm dz) hz, hk _ _ r4 hT, r1, r2, r3, r4⟩
theorem zst_item {z TI TO i1 i2 l1 l2 S : Addr} {xs ys : Array Value} {k : Nat} {x y : Value} {Q : Option Value → Shared → Prop} (D : ZipApart z TI TO i1 i2 l1 l2) (hst : ZSt z TI TO i1 i2 l1 l2 S xs ys k s.heap) (hS : S < s.heap.objs.size) (hx : xs[k]? = some x) (hy : ys[k]? = some y)
    (hQ : ∀ h', ZSt z TI TO i1 i2 l1 l2 S xs ys (k + 1) h' → h'.get? s.heap.objs.size = some { cls := .type "tuple", data := .seq #[x, y] } → h'.objs.size = s.heap.objs.size + 1 →
      (∀ b o, b ∉ [z, TO, i1, i2] → s.heap.get? b = some o → h'.get? b = some o) → Q (some (.ref s.heap.objs.size)) { s with heap := h' }) : wpAny (model prog w) A (pyNext (.ref z)) Q E s := by
  obtain ⟨hTI, hs, hz⟩ := hst
  obtain ⟨⟨o1, e1⟩, ⟨o2, e2⟩⟩ := hs.there
  have n1 : s.heap.objs.size ≠ i1 := Nat.ne_of_gt (Heap.lt_size e1)
  have n2 : s.heap.objs.size ≠ i2 := Nat.ne_of_gt (Heap.lt_size e2)
  have nS : s.heap.objs.size ≠ S := Nat.ne_of_gt hS
  rcases hz with ⟨hz, a, b, hTO⟩ | ⟨T, f, oT, hz, hT, r1, r2, r3, r4⟩
  · have nz : s.heap.objs.size ≠ z := Nat.ne_of_gt (Heap.lt_size hz)
    rcases hs with ⟨h1, h2, hl1, hl2⟩ | ⟨h1, h2, hl1, hl2⟩
    · refine wpAny_pyNext_zip_item D hz hTI hTO h1 h2 hl1 hl2 hx hy fun h' a1 a2 a3 a4 a5 a6 hk => ?_
      exact hQ h' ⟨hk _ _ D.TIz D.TITO D.TIi1 D.TIi2 hTI, .inl ⟨a3, a4, hl1.at fun o e => hk _ o D.l1z D.l1TO D.l1i1 D.l1i2 e, hl2.at fun o e => hk _ o D.l2z D.l2TO D.l2i1 D.l2i2 e⟩, .inr ⟨_, false, _, a1, a5, nz, n1, n2, nS⟩⟩ a5 a6
        fun c o hc e => hk c o (fun x => hc (by simp [x])) (fun x => hc (by simp [x])) (fun x => hc (by simp [x])) (fun x => hc (by simp [x])) e
    · refine RZ.pyNext_zipT_item D hz hTI hTO h1 h2 hl1 hl2 hx hy fun h' a1 a2 a3 a4 a5 a6 hk => ?_
      exact hQ h' ⟨hk _ _ D.TIz D.TITO D.TIi1 D.TIi2 hTI, .inr ⟨a3, a4, hl1.at fun o e => hk _ o D.l1z D.l1TO D.l1i1 D.l1i2 e, hl2.at fun o e => hk _ o D.l2z D.l2TO D.l2i1 D.l2i2 e⟩, .inr ⟨_, false, _, a1, a5, nz, n1, n2, nS⟩⟩ a5 a6
        fun c o hc e => hk c o (fun x => hc (by simp [x])) (fun x => hc (by simp [x])) (fun x => hc (by simp [x])) (fun x => hc (by simp [x])) e
  · rcases hs with ⟨h1, h2, hl1, hl2⟩ | ⟨h1, h2, hl1, hl2⟩
    · refine wpAny_pyNext_zip_item_held D hz hT hTI h1 h2 hl1 hl2 hx hy fun h' a1 a3 a4 a5 a6 hk => ?_
      exact hQ h' ⟨hk _ _ D.TIz D.TIi1 D.TIi2 hTI, .inl ⟨a3, a4, hl1.at fun o e => hk _ o D.l1z D.l1i1 D.l1i2 e, hl2.at fun o e => hk _ o D.l2z D.l2i1 D.l2i2 e⟩, .inr ⟨T, true, oT, a1, hk _ _ r1 r2 r3 hT, r1, r2, r3, r4⟩⟩ a5 a6
        fun c o hc e => hk c o (fun x => hc (by simp [x])) (fun x => hc (by simp [x])) (fun x => hc (by simp [x])) e
    · refine pyNext_zipT_item_held D hz hT hTI h1 h2 hl1 hl2 hx hy fun h' a1 a3 a4 a5 a6 hk => ?_
      exact hQ h' ⟨hk _ _ D.TIz D.TIi1 D.TIi2 hTI, .inr ⟨a3, a4, hl1.at fun o e => hk _ o D.l1z D.l1i1 D.l1i2 e, hl2.at fun o e => hk _ o D.l2z D.l2i1 D.l2i2 e⟩, .inr ⟨T, true, oT, a1, hk _ _ r1 r2 r3 hT, r1, r2, r3, r4⟩⟩ a5 a6
        fun c o hc e => hk c o (fun x => hc (by simp [x])) (fun x => hc (by simp [x])) (fun x => hc (by simp [x])) e
theorem zst_done {z TI TO i1 i2 l1 l2 S : Addr} {xs ys : Array Value} {k : Nat} {Q : Option Value → Shared → Prop} (hh : A.handled = none) (D : ZipApart z TI TO i1 i2 l1 l2) (hst : ZSt z TI TO i1 i2 l1 l2 S xs ys k s.heap) (hend : xs[k]? = none ∨ ys[k]? = none)
    (hQ : ∀ h', (∀ b o, b ∉ [z, TO, i1, i2] → s.heap.get? b = some o → h'.get? b = some o) → Q none { s with heap := h' }) : wpAny (model prog w) A (pyNext (.ref z)) Q E s := by
  obtain ⟨hTI, hs, hz⟩ := hst
  rcases hz with ⟨hz, a, b, hTO⟩ | ⟨T, f, oT, hz, hT, r1, r2, r3, r4⟩
  · rcases hs with ⟨h1, h2, hl1, hl2⟩ | ⟨h1, h2, hl1, hl2⟩
    · exact wpAny_pyNext_zip_end hh D hz hTI hTO h1 h2 hl1 hl2 hend fun h' hk => hQ h' fun c o hc e => hk c o (fun x => hc (by simp [x])) (fun x => hc (by simp [x])) (fun x => hc (by simp [x])) (fun x => hc (by simp [x])) e
    · exact RZ.pyNext_zipT_end hh D hz hTI hTO h1 h2 hl1 hl2 hend fun h' hk => hQ h' fun c o hc e => hk c o (fun x => hc (by simp [x])) (fun x => hc (by simp [x])) (fun x => hc (by simp [x])) (fun x => hc (by simp [x])) e
  · rcases hs with ⟨h1, h2, hl1, hl2⟩ | ⟨h1, h2, hl1, hl2⟩
    · exact wpAny_pyNext_zip_end_held hh D hz hT hTI h1 h2 hl1 hl2 hend fun h' hk => hQ h' fun c o hc e => hk c o (fun x => hc (by simp [x])) (fun x => hc (by simp [x])) (fun x => hc (by simp [x])) e
    · exact pyNext_zipT_end_held hh D hz hT hTI h1 h2 hl1 hl2 hend fun h' hk => hQ h' fun c o hc e => hk c o (fun x => hc (by simp [x])) (fun x => hc (by simp [x])) (fun x => hc (by simp [x])) e
end
/-- the pairs of xs and ys stand at as, above lo, rising -/
structure ZG (xs ys : Array Value) (lo : Addr) (h : Heap) (as : List Addr) : Prop where
  rise : as.Pairwise (· < ·)
  above : ∀ a ∈ as, lo < a
  pairs : ∀ (j : Nat) (a : Addr), as[j]? = some a → ∃ x y, xs[j]? = some x ∧ ys[j]? = some y ∧ h.get? a = some { cls := .type "tuple", data := .seq #[x, y] }
theorem ZG.there {xs ys : Array Value} {lo : Addr} {h : Heap} {as : List Addr} (g : ZG xs ys lo h as) {a : Addr} (ha : a ∈ as) : a < h.objs.size := by
  obtain ⟨j, hj⟩ := List.mem_iff_getElem?.mp ha
  obtain ⟨_, _, _, _, e⟩ := g.pairs j a hj
  exact Heap.lt_size e
section
variable {prog : Program} {w : World} {A : Around} {s : Shared} {R : Result → Shared → Prop} {xs ys : Array Value} {z TI TO i1 i2 l1 l2 S : Addr}
theorem zil_loop (hh : A.handled = none) (D : ZipApart z TI TO i1 i2 l1 l2) (hSd : S ∉ [z, TI, TO, i1, i2, l1, l2]) (hlo : ∀ b ∈ [z, TO, i1, i2], b < S) (hn : xs.size ≤ sizeLine) (hxy : xs.size = ys.size) (res : Value) {h₁ : Heap}
    (hR : ∀ h' tk acc c as, (∀ b o, b ≠ S → b ∉ [z, TO, i1, i2] → h₁.get? b = some o → h'.get? b = some o) → h'.get? S = some { cls := .type "list", dict := none, data := .seq acc c, slots := #[] } → as.length = xs.size → ZG xs ys S h' as →
      acc.toList = as.map Value.ref → R (.ok (.ret res)) { s with heap := h', toks := tk }) :
    ∀ (k i : Nat) (h : Heap) (tk c : Nat) (acc : Array Value) (as : List Addr), xs.size - i = k → i ≤ xs.size → ZSt z TI TO i1 i2 l1 l2 S xs ys i h → (∀ b o, b ≠ S → b ∉ [z, TO, i1, i2] → h₁.get? b = some o → h.get? b = some o) →
      h.get? S = some { cls := .type "list", dict := none, data := .seq acc c, slots := #[] } → acc.toList = as.map Value.ref → as.length = i → ZG xs ys S h as →
      codeAny (model prog w) A (.builtin "list.extend.loop" ⟨[.ref S, .ref z, res], []⟩) R { s with heap := h, toks := tk } := by
  have hSw : S ∉ [z, TO, i1, i2] := fun q => hSd (by simp at q ⊢; rcases q with q | q | q | q <;> simp [q])
  intro k
  induction k with
  | zero =>
    intro i h tk c acc as hk hi hst hkeep hS hacc hal hG
    have hin : i = xs.size := by omega
    refine codeAny_builtin PySem.F.entry_extend_loop ?_
    rw [Around.under_plainId PySem.F.plain_extend_loop _]
    show wpAny _ A.in1 (pyNext (.ref z) >>= _) _ _ _
    refine wpAny_bind (zst_done (s := { s with heap := h, toks := tk }) (A := A.in1) hh D hst (.inl (Array.getElem?_eq_none (by omega))) fun h' he => ?_)
    refine wpAny_pure (hR h' tk acc c as (fun b o h1 h2 e => he b o h2 (hkeep b o h1 h2 e)) (he S _ hSw hS) (by omega) ⟨hG.rise, hG.above, fun j a hj => ?_⟩ hacc)
    obtain ⟨x, y, e1, e2, e3⟩ := hG.pairs j a hj
    have hab := hG.above a (List.mem_of_getElem? hj)
    exact ⟨x, y, e1, e2, he a _ (fun q => absurd (hlo a q) (Nat.not_lt.mpr (Nat.le_of_lt hab))) e3⟩
  | succ k ih =>
    intro i h tk c acc as hk hi hst hkeep hS hacc hal hG
    have hlt : i < xs.size := by omega
    have hlt2 : i < ys.size := by omega
    have hsz : acc.size = i := by rw [← Array.length_toList, hacc, List.length_map, hal]
    refine codeAny_builtin PySem.F.entry_extend_loop ?_
    rw [Around.under_plainId PySem.F.plain_extend_loop _]
    show wpAny _ A.in1 (pyNext (.ref z) >>= _) _ _ _
    have ex := Array.getElem?_eq_getElem hlt
    have ey := Array.getElem?_eq_getElem hlt2
    generalize xs[i] = x at ex
    generalize ys[i] = y at ey
    refine wpAny_bind (zst_item (s := { s with heap := h, toks := tk }) D hst (Heap.lt_size hS) ex ey fun h' hst' ht hz hkp => ?_)
    dsimp only at ht hz hkp ⊢
    have hS' := hkp S _ hSw hS
    have up : ∀ b o, b ≠ S → h'.get? b = some o → (h'.update S (Obj.mapSeq (·.push (Value.ref h.objs.size)))).get? b = some o := fun b o hb e => (Heap.get?_update_other _ _ (Ne.symm hb)).trans e
    have hSl : S < h.objs.size := Heap.lt_size hS
    show wpAny _ A.in1 (updateSeq S (·.push (Value.ref h.objs.size)) >>= _) _ _ _
    refine wpAny_bind ?_
    refine wpAny_updateSeq hS' rfl (wpAny_pure ⟨plainId_quiet PySem.F.plain_extend_loop _, ih (i + 1) _ tk _ (acc.push (Value.ref h.objs.size)) (as ++ [h.objs.size]) (by omega) hlt (hst'.keep hSd up)
      (fun b o h1 h2 e => up b o h1 (hkp b o h2 (hkeep b o h1 h2 e))) (Heap.get?_update_self _ hS' rfl) (by rw [Array.toList_push, hacc, List.map_append]; rfl) (by rw [List.length_append, hal]; rfl) ⟨?_, ?_, ?_⟩⟩) (by rw [hsz]; omega) (by show (acc.push (Value.ref h.objs.size)).size ≤ sizeLine + 1; rw [Array.size_push, hsz]; omega)
    · refine List.pairwise_append.mpr ⟨hG.rise, List.pairwise_singleton _ _, fun a ha b hb => ?_⟩
      rw [List.mem_singleton.mp hb]
      exact hG.there ha
    · intro a ha
      rcases List.mem_append.mp ha with ha | ha
      · exact hG.above a ha
      · rw [List.mem_singleton.mp ha]; exact hSl
    · intro j b hj
      rcases Nat.lt_trichotomy j as.length with h1 | h1 | h1
      · rw [List.getElem?_append_left h1] at hj
        obtain ⟨x', y', e1, e2, e3⟩ := hG.pairs j b hj
        have hb := hG.above b (List.mem_of_getElem? hj)
        exact ⟨x', y', e1, e2, up b _ (Nat.ne_of_gt hb) (hkp b _ (fun q => absurd (hlo b q) (Nat.not_lt.mpr (Nat.le_of_lt hb))) e3)⟩
      · subst h1
        have hb : h.objs.size = b := by simpa using hj
        subst hb
        exact ⟨x, y, by rw [hal]; exact ex, by rw [hal]; exact ey, up _ _ (Nat.ne_of_gt hSl) ht⟩
      · have hnone : (as ++ [h.objs.size])[j]? = none := List.getElem?_eq_none (by rw [List.length_append, List.length_singleton]; omega)
        rw [hnone] at hj; cases hj
end
theorem zip_no_len : typeLookup (.type "zip") "__len__" = pure none := am_miss_of_fast (by decide +kernel)
theorem zip_no_hint : typeLookup (.type "zip") "__length_hint__" = pure none := am_miss_of_fast (by decide +kernel)
section
variable {prog : Program} {w : World} {A : Around} {E : Value → Shared → Prop} {s : Shared} {xs ys : Array Value} {z TI TO i1 i2 l1 l2 : Addr}
theorem zip_hint {r : Addr} (hT : s.TypeIs (.ref r) "zip") {Q : Bool → Shared → Prop} (h : Q true s) : wpAny (model prog w) A (Builtin.List.listLengthHint (.ref r)) Q E s := by
  unfold Builtin.List.listLengthHint
  refine wpAny_bind (wpAny_specialOf hT zip_no_len ?_)
  refine wpAny_bind (wpAny_specialOf hT zip_no_hint ?_)
  exact wpAny_pure h
theorem zst_type {S : Addr} {k : Nat} {h : Heap} (x : ZSt z TI TO i1 i2 l1 l2 S xs ys k h) : ∃ o, h.get? z = some o ∧ o.cls = .type "zip" := by
  rcases x.2.2 with ⟨hz, _⟩ | ⟨T, f, oT, hz, _⟩
  · exact ⟨_, hz, rfl⟩
  · exact ⟨_, hz, rfl⟩
theorem zil_extend {R : Result → Shared → Prop} {S : Addr} {f0 : Value} (hh : A.handled = none) (D : ZipApart z TI TO i1 i2 l1 l2) (hSd : S ∉ [z, TI, TO, i1, i2, l1, l2]) (hlo : ∀ b ∈ [z, TO, i1, i2], b < S) (hn : xs.size ≤ sizeLine) (hxy : xs.size = ys.size)
    (hz : IsZip s.heap z TI TO f0) (hst : ZSt z TI TO i1 i2 l1 l2 S xs ys 0 s.heap) (res : Value) (c₀ : Nat) (hS : s.heap.get? S = some { cls := .type "list", data := .seq #[] c₀ })
    (hR : ∀ h' tk acc c as, (∀ b o, b ≠ S → b ∉ [z, TO, i1, i2] → s.heap.get? b = some o → h'.get? b = some o) → h'.get? S = some { cls := .type "list", dict := none, data := .seq acc c, slots := #[] } → as.length = xs.size → ZG xs ys S h' as →
      acc.toList = as.map Value.ref → R (.ok (.ret res)) { s with heap := h', toks := tk }) :
    wpAny (model prog w) A.in1 (Builtin.List.listExtendWith (.ref S) (.ref z) res)
      (fun fin s' => match fin with | .done f => R (.ok f) s' | .again c' => c'.quiet = true ∧ codeAny (model prog w) A c' R s') (fun e s' => R (.error e) s') s := by
  have key : ∀ (h : Heap) (c₁ tk : Nat), (∀ b o, b ≠ S → s.heap.get? b = some o → h.get? b = some o) →
      h.get? S = some { cls := .type "list", data := .seq #[] c₁ } → codeAny (model prog w) A (.builtin "list.extend.loop" ⟨[.ref S, .ref z, res], []⟩) R { s with heap := h, toks := tk } := by
    intro h c₁ tk hk hS₁
    exact zil_loop (s := s) (h₁ := s.heap) hh D hSd hlo hn hxy res hR xs.size 0 h tk c₁ #[] [] (Nat.sub_zero _) (Nat.zero_le _) (hst.keep hSd hk) (fun b o hb _ e => hk b o hb e) hS₁ rfl rfl
      ⟨List.Pairwise.nil, (fun _ ha => nomatch ha), (fun j a hj => by simp at hj)⟩
  have hT : s.TypeIs (.ref z) "zip" := ⟨_, hz, rfl⟩
  have hSr : S ≠ z := fun q => hSd (by simp [q])
  unfold Builtin.List.listExtendWith
  refine wpAny_bind (wpAny_typeOf (T := "zip") hT ?_)
  have h1 : Builtin.List.listSameRef (.ref S) (.ref z) = false := by simp [Builtin.List.listSameRef, hSr]
  have h2 : (Value.type "zip" == Value.type "list") = false := by decide
  have h3 : (Value.type "zip" == Value.type "tuple") = false := by decide
  simp only [h1, h2, h3, Bool.or_false, Bool.false_eq_true, if_false]
  refine wpAny_bind (wpAny_pyIter_zip hz ?_)
  refine wpAny_bind (wpAny_holding (zip_hint hT ?_))
  refine wpAny_ite_split (fun _ => ?_) (fun _ => wpAny_pure ⟨plainId_quiet PySem.F.plain_extend_loop _, key _ c₀ _ (fun b o _ e => e) hS⟩)
  refine wpAny_bind (wpAny_rule ?_)
  refine wpAny_bind ?_
  show wpAny _ _ (updateSeq S (·.push .none) >>= fun _ => updateSeq S (·.pop)) _ _ _
  refine wpAny_bind (wpAny_updateSeq hS rfl ?_)
  have hS₂ := Heap.get?_update_self (Obj.mapSeq (·.push Value.none)) hS rfl
  refine wpAny_updateSeq (hz := by seq_fits) hS₂ rfl ?_
  have hS₃ := Heap.get?_update_self (Obj.mapSeq (·.pop)) hS₂ rfl
  refine wpAny_pure ⟨plainId_quiet PySem.F.plain_extend_loop _, key _ _ _ (fun b o hb e => ?_) hS₃⟩
  exact (Heap.get?_update_other _ _ (Ne.symm hb)).trans ((Heap.get?_update_other _ _ (Ne.symm hb)).trans e)
theorem zil_init {R : Result → Shared → Prop} {S : Addr} {f0 : Value} (hh : A.handled = none) (D : ZipApart z TI TO i1 i2 l1 l2) (hSd : S ∉ [z, TI, TO, i1, i2, l1, l2]) (hlo : ∀ b ∈ [z, TO, i1, i2], b < S) (hn : xs.size ≤ sizeLine) (hxy : xs.size = ys.size)
    (hz : IsZip s.heap z TI TO f0) (hst : ZSt z TI TO i1 i2 l1 l2 S xs ys 0 s.heap) (hS : s.heap.get? S = some { cls := .type "list", data := .seq #[] })
    (hR : ∀ h' tk acc c as, (∀ b o, b ≠ S → b ∉ [z, TO, i1, i2] → s.heap.get? b = some o → h'.get? b = some o) → h'.get? S = some { cls := .type "list", dict := none, data := .seq acc c, slots := #[] } → as.length = xs.size → ZG xs ys S h' as →
      acc.toList = as.map Value.ref → R (.ok (.ret .none)) { s with heap := h', toks := tk }) :
    wpAny (model prog w) A.in1 (Builtin.«list.__init__» ⟨[.ref S, .ref z], []⟩)
      (fun fin s' => match fin with | .done f => R (.ok f) s' | .again c' => c'.quiet = true ∧ codeAny (model prog w) A c' R s') (fun e s' => R (.error e) s') s := by
  show wpAny _ _ (do let old ← Builtin.List.listItems (.ref S); Builtin.List.listUpdate (.ref S) (fun _ => #[]); letGo old.toList.reverse; Builtin.List.listExtendWith (.ref S) (.ref z) .none) _ _ s
  refine wpAny_bind ?_
  unfold Builtin.List.listItems
  refine wpAny_bind (wpAny_seqItems hS rfl (wpAny_pure ?_))
  show wpAny _ _ (updateSeq S (fun _ => #[]) >>= fun _ => letGo (#[] : Array Value).toList.reverse >>= fun _ => Builtin.List.listExtendWith (.ref S) (.ref z) .none) _ _ s
  refine wpAny_bind (wpAny_updateSeq hS rfl ?_)
  have hS₂ := Heap.get?_update_self (Obj.mapSeq (fun _ => (#[] : Array Value))) hS rfl
  have oth : ∀ b o, b ≠ S → s.heap.get? b = some o → (s.heap.update S (Obj.mapSeq (fun _ => (#[] : Array Value)))).get? b = some o :=
    fun b o hb e => (Heap.get?_update_other _ _ (Ne.symm hb)).trans e
  have hzS : z ≠ S := fun q => hSd (by simp [q])
  refine wpAny_bind (wpAny_letGo ?_)
  refine zil_extend (s := { s with heap := s.heap.update S (Obj.mapSeq (fun _ => (#[] : Array Value))) }) hh D hSd hlo hn hxy (oth _ _ hzS hz) (hst.keep hSd oth) .none _ hS₂ (fun h' tk acc c as hk hS' hl hG hacc => ?_)
  exact hR h' tk acc c as (fun b o hb hw e => hk b o hb hw (oth b o hb e)) hS' hl hG hacc
theorem zil_call {Q : Value → Shared → Prop} {f0 : Value} (hh : A.handled = none) (D : ZipApart z TI TO i1 i2 l1 l2) (hlt : ∀ b ∈ [z, TI, TO, i1, i2, l1, l2], b < s.heap.objs.size) (hn : xs.size ≤ sizeLine) (hxy : xs.size = ys.size)
    (hz : IsZip s.heap z TI TO f0) (hst : ∀ S, S = s.heap.objs.size → ZSt z TI TO i1 i2 l1 l2 S xs ys 0 s.heap)
    (hQ : ∀ h' tk acc c as, (∀ b o, b ∉ [z, TO, i1, i2] → s.heap.get? b = some o → h'.get? b = some o) → h'.get? s.heap.objs.size = some { cls := .type "list", dict := none, data := .seq acc c, slots := #[] } → as.length = xs.size → ZG xs ys s.heap.objs.size h' as →
      acc.toList = as.map Value.ref → Q (.ref s.heap.objs.size) { s with heap := h', toks := tk }) :
    wpAny (model prog w) A (call (.type "list") [.ref z]) Q E s := by
  refine callType_codes (Q₁ := fun obj s₁ => obj = .ref s.heap.objs.size ∧ s₁ = { s with heap := s.heap.push { cls := .type "list", data := .seq #[] } }) PySem.F.called_list (PySem.F.typeCall_list_1 _) PySem.F.entry_list_init
    (code_list_new _ ⟨rfl, rfl⟩) fun obj s₁ h₁ => ?_
  obtain ⟨rfl, rfl⟩ := h₁
  have hS : (s.heap.push { cls := .type "list", data := .seq #[] }).get? s.heap.objs.size = some { cls := .type "list", data := .seq #[] } := Heap.get?_push_size _ rfl
  have hSd : s.heap.objs.size ∉ [z, TI, TO, i1, i2, l1, l2] := fun q => Nat.lt_irrefl _ (hlt _ q)
  have hlo : ∀ b ∈ [z, TO, i1, i2], b < s.heap.objs.size := fun b hb => hlt b (by simp at hb ⊢; rcases hb with q | q | q | q <;> simp [q])
  refine ⟨⟨_, hS, rfl⟩, PySem.F.args_list_init_2 _ _, zil_init (A := A.in1) (s := { s with heap := s.heap.push { cls := .type "list", data := .seq #[] } }) hh D hSd hlo hn hxy (Heap.get?_push_of_some _ hz) ((hst _ rfl).keep hSd fun b o _ e => Heap.get?_push_of_some _ e) hS (fun h' tk acc c as hk hS' hl hG hacc => ?_)⟩
  exact ⟨rfl, hQ h' tk acc c as (fun b o hw e => hk b o (Nat.ne_of_lt (Heap.lt_size e)) hw (Heap.get?_push_of_some _ e)) hS' hl hG hacc⟩
end
/-! ### the rule -/
/-- the pairs tracked at their addresses -/
def putP : Hp → List Addr → List (V × V) → Hp
  | H, a :: as, p :: ps => putP (upd H a (.tup [p.1, p.2])) as ps
  | H, _, _ => H
theorem putP_off {b : Addr} : ∀ (as : List Addr) (ps : List (V × V)) (H : Hp), b ∉ as → putP H as ps b = H b
  | [], _, _, _ => rfl
  | _ :: _, [], _, _ => rfl
  | a :: as, p :: ps, H, h => by
    show putP (upd H a (.tup [p.1, p.2])) as ps b = H b
    rw [putP_off as ps _ (fun z => h (List.mem_cons_of_mem _ z)), upd_ne (fun z => h (by rw [z]; exact List.mem_cons_self))]
theorem putP_at : ∀ (as : List Addr) (ps : List (V × V)) (H : Hp), as.length = ps.length → as.Nodup → Paired (fun (t : Addr) (p : V × V) => putP H as ps t = some (.tup [p.1, p.2])) as ps
  | [], [], _, _, _ => .nil
  | [], _ :: _, _, h, _ => by cases h
  | _ :: _, [], _, h, _ => by cases h
  | a :: as, p :: ps, H, h, hn => by
    have hn' := List.nodup_cons.mp hn
    have ih := putP_at as ps (upd H a (.tup [p.1, p.2])) (Nat.succ.inj h) hn'.2
    refine .cons ?_ ih
    show putP (upd H a (.tup [p.1, p.2])) as ps a = some (.tup [p.1, p.2])
    rw [putP_off as ps _ hn'.1, upd_same]
section
variable {X : Cx}
theorem pairs_laid {pins : List (Addr × Obj)} {σ : L2.St} {H : Hp} {s : Shared} {h' : Heap} {tk : Nat} {xv yv : List V} {xs ys : List Value} {acc : Array Value} {c : Nat} {as : List Addr} {S : Addr} (I : Inv X pins σ H s) (hz : xs.length ≤ sizeLine) (hx : Vals xv xs) (hy : Vals yv ys) (hxy : xs.length = ys.length)
    (hS0 : s.heap.objs.size ≤ S) (hk : ∀ b o, s.heap.get? b = some o → h'.get? b = some o) (hS : h'.get? S = some { cls := .type "list", dict := none, data := .seq acc c, slots := #[] }) (hl : as.length = xs.length) (hG : ZG xs.toArray ys.toArray S h' as) (hacc : acc.toList = as.map Value.ref) :
    ∃ H' : Hp, Same H H' ∧ H S = none ∧ (∀ t ∈ as, H t = none) ∧ S ∉ as ∧ H' S = some (.lst (as.map V.ref)) ∧ Paired (fun (t : Addr) (q : V × V) => H' t = some (.tup [q.1, q.2])) as (xv.zip yv) ∧ Inv X pins σ H' { s with heap := h', toks := tk } := by
  have lx := hx.length
  have ly := hy.length
  have lz : as.length = (xv.zip yv).length := by rw [List.length_zip]; omega
  have hSn : S ∉ as := fun z => Nat.lt_irrefl _ (hG.above _ z)
  have nd : as.Nodup := List.Pairwise.imp (fun {a b} (h : a < b) => Nat.ne_of_lt h) hG.rise
  have new : ∀ t ∈ as, H t = none := fun t ht => I.hok.fresh (Nat.le_trans hS0 (Nat.le_of_lt (hG.above t ht)))
  have newS : H S = none := I.hok.fresh hS0
  have atP := putP_at as (xv.zip yv) (upd H S (.lst (as.map V.ref))) lz nd
  have off : ∀ b, b ∉ as → b ≠ S → putP (upd H S (.lst (as.map V.ref))) as (xv.zip yv) b = H b := fun b h1 h2 => by rw [putP_off as _ _ h1, upd_ne h2]
  have low : ∀ b o, s.heap.get? b = some o → b ∉ as ∧ b ≠ S := fun b o e => ⟨fun z => absurd (Heap.lt_size e) (Nat.not_lt.mpr (Nat.le_trans hS0 (Nat.le_of_lt (hG.above b z)))), Nat.ne_of_lt (Nat.lt_of_lt_of_le (Heap.lt_size e) hS0)⟩
  have kp : ∀ b u, H b = some u → (putP (upd H S (.lst (as.map V.ref))) as (xv.zip yv)) b = some u := fun b u e => by
    rw [off b (fun z => by rw [new b z] at e; cases e) (fun z => by rw [z, newS] at e; cases e)]
    exact e
  have eS : putP (upd H S (.lst (as.map V.ref))) as (xv.zip yv) S = some (.lst (as.map V.ref)) := by rw [putP_off as _ _ hSn, upd_same]
  refine ⟨putP (upd H S (.lst (as.map V.ref))) as (xv.zip yv), kp, newS, new, hSn, eS, atP, ?_⟩
  refine I.call' (ch := []) rfl ⟨fun b o q _ _ _ => hk b o q, fun b o q _ _ _ => ⟨o.slots, hk b o q⟩, fun b o q n _ => ?_, fun b o q _ => ⟨o, hk b o q⟩, fun b xs q => kp b _ q, fun b o u q => kp b _ q, fun b ps q => ⟨#[], by rw [kp b _ q]; simp⟩⟩ (fun b u q => ?_) I.bare fun b z => by simp at z
  · obtain ⟨z1, z2⟩ := low b o q
    rw [off b z1 z2]
    exact n
  · by_cases hb : b ∈ as
    · obtain ⟨j, pk, e1, e2, e3⟩ := LiI.paired_ix atP hb
      rw [e3] at q
      cases q
      obtain ⟨x, y, f1, f2, f3⟩ := hG.pairs j b e1
      obtain ⟨g1, g2⟩ := List.getElem?_zip_eq_some.mp e2
      obtain ⟨u1, g3, g4⟩ := hx.get g1
      obtain ⟨u2, g5, g6⟩ := hy.get g2
      have f1 : xs[j]? = some x := by simpa using f1
      have f2 : ys[j]? = some y := by simpa using f2
      rw [f1] at g3; cases g3
      rw [f2] at g5; cases g5
      exact ⟨by show 2 ≤ sizeLine; decide, [x, y], .cons g4 (.cons g6 .nil), ⟨_, f3, rfl, _, rfl⟩⟩
    · by_cases hb2 : b = S
      · rw [hb2] at q ⊢
        rw [eS] at q
        cases q
        refine ⟨by rw [List.length_map]; omega, acc.toList, c, by rw [hacc]; exact LiI.vals_refs as, ?_⟩
        rw [Array.toArray_toList]
        exact hS
      · rw [off b hb hb2] at q
        exact (I.hok b u q).stay (fun d v _ y => hk d v y) (fun d y => kp d _ y) fun d xs y => kp d _ y
theorem lt_of7 {n c a b : Nat} (la : a < n) (lb : b < n) (e : c = n + 4 ∨ c = n + 2 ∨ c = n + 3 ∨ c = n ∨ c = n + 1 ∨ c = a ∨ c = b) : c < n + 5 := by omega
theorem ge_of4 {n c : Nat} (e : c = n + 4 ∨ c = n + 3 ∨ c = n ∨ c = n + 1) : ¬ c < n := by omega
def rLZip (K : PySem.W.Frag) : List V → Hp → VK → Prop := fun vs H Q => ∃ (a b : Addr) (xs ys : List V), vs = [.ref a, .ref b] ∧ ((SqL K H a xs ∧ SqL K H b ys) ∨ (SqT K H a xs ∧ SqT K H b ys)) ∧ xs.length = ys.length ∧
  ∀ (H' : Hp) (p : Addr) (ts : List Addr), Same H H' → H p = none → (∀ t ∈ ts, H t = none) → H' p = some (.lst (ts.map V.ref)) → Paired (fun (t : Addr) (q : V × V) => H' t = some (.tup [q.1, q.2])) ts (xs.zip ys) → Q (.ref p) H'
def tLZip (K : PySem.W.Frag) (ta : TA) : TE := fun σ H Q => ta σ H fun vs H1 => rLZip K vs H1 Q
theorem pe_listZip {e e2 : Expr} {ta : TA} {p p2 pos2 pos : Pos} (hc : X.calm = true) (hg : Gl X "list") (hm : X.mg "list" = none) (hv : bootBuiltins "list" = some (.type "list")) (hgz : Gl X "zip") (hmz : X.mg "zip" = none) (ha : PA X [e, e2] ta)
    (hs : starEach [.Call (.Name "zip" p2) [e, e2] [] pos2] X.env = (false, eval (.Call (.Name "zip" p2) [e, e2] [] pos2) X.env) :: starEach [] X.env := by rfl)
    (hz : starEach [e, e2] X.env = (false, eval e X.env) :: starEach [e2] X.env := by rfl) (hpl : (backTo pos2 (starEach [e2] X.env)).any (·.1) = false := by rfl) :
    PE X (.Call (.Name "list" p) [.Call (.Name "zip" p2) [e, e2] [] pos2] [] pos) (tLZip X.K ta) := by
  refine ⟨fun pins s σ H Q I hq => ?_⟩
  refine wpAny_Call_Name_kw (ld_blt I hg hm hv ?_)
  refine PyProof.Rows.callWith_type1 ?_ hs rfl
  rw [hs]
  show wpAny _ _ (spliced ((false, eval (.Call (.Name "zip" p2) [e, e2] [] pos2) X.env) :: backTo pos (starEach [] X.env))) _ _ s
  refine Calls.spliced_cons ?_
  refine Call_ (ld_blt I hgz hmz PyProof.Rows.boot_zip (PyProof.Rows.callWith_type1 (thn (ha.run pos2 pins s σ H _ I hq) fun us s1 ⟨vs, H1, I1, r1, q1⟩ => ?_) hz hpl))
  obtain ⟨a, b, xs, ys, ex, hab, hxy, q⟩ := q1
  subst ex
  cases r1 with
  | cons r rr =>
    cases rr with
    | cons r' rr =>
      cases rr
      cases r
      cases r'
      have fin : ∀ (h' : Heap) (its its2 : List Value), Vals xs its → Vals ys its2 → its.length ≤ sizeLine → a < s1.heap.objs.size → b < s1.heap.objs.size → IsZip h' (s1.heap.objs.size + 4) (s1.heap.objs.size + 2) (s1.heap.objs.size + 3) .none → IsPair h' (s1.heap.objs.size + 2) (.ref s1.heap.objs.size) (.ref (s1.heap.objs.size + 1)) →
          IsPair h' (s1.heap.objs.size + 3) .none .none → SeqsAt h' s1.heap.objs.size (s1.heap.objs.size + 1) a b its.toArray its2.toArray 0 → h'.objs.size = s1.heap.objs.size + 5 →
          (∀ c o, s1.heap.get? c = some o → h'.get? c = some o) → wpAny (model X.prog X.w) X.A (call (.type "list") [.ref (s1.heap.objs.size + 4)]) (EP X pins σ Q) X.xe { s1 with heap := h' } := by
        intro h' its its2 rv rv2 hzl la lb hz0 hTI hTO hsq hsz hk
        have l1 := rv.length
        have l2 := rv2.length
        refine zil_call (s := { s1 with heap := h' }) (xs := its.toArray) (ys := its2.toArray) (I1.ok.hd hc) (PySem.W.ktu_apart s1.heap.objs.size a b la lb) (fun c hcm => ?_) (by simpa using hzl) (by simp; omega) hz0 (fun S _ => ⟨hTI, hsq, .inl ⟨hz0, _, _, hTO⟩⟩) fun h'' tk acc c as hk2 hS hl hG hacc => ?_
        · have hle : c < s1.heap.objs.size + 5 := by
            have e' : c = s1.heap.objs.size + 4 ∨ c = s1.heap.objs.size + 2 ∨ c = s1.heap.objs.size + 3 ∨ c = s1.heap.objs.size ∨ c = s1.heap.objs.size + 1 ∨ c = a ∨ c = b := by simpa using hcm
            exact lt_of7 la lb e'
          show c < h'.objs.size
          rw [hsz]; exact hle
        · have kp : ∀ c o, s1.heap.get? c = some o → h''.get? c = some o := fun c o e => hk2 c o (fun z => by
            have e' : c = s1.heap.objs.size + 4 ∨ c = s1.heap.objs.size + 3 ∨ c = s1.heap.objs.size ∨ c = s1.heap.objs.size + 1 := by simpa using z
            exact absurd (Heap.lt_size e) (ge_of4 e')) (hk c o e)
          obtain ⟨H', k1, k2, k3, k4, k5, k6, J⟩ := pairs_laid (tk := tk) (S := h'.objs.size) I1 hzl rv rv2 (by omega) (by rw [hsz]; exact Nat.le_add_right _ _) kp hS (by simpa using hl) hG hacc
          exact ⟨.ref _, H', J, rfl, q H' _ as k1 k2 k3 k5 k6⟩
      rcases hab with ⟨hqx, hqy⟩ | ⟨hqx, hqy⟩
      · obtain ⟨its, rv, p1, hzl⟩ := I1.list hqx
        obtain ⟨its2, rv2, p2, _⟩ := I1.list hqy
        refine call_zip_2 p1.isList p2.isList fun h' hz hTI hTO h1 h2 hsz hk => ?_
        refine Calls.spliced_nil ?_
        refine fin h' its its2 rv rv2 (by rw [← rv.length]; exact hzl) p1.lt p2.lt hz hTI hTO (.inl ⟨h1, h2, p1.isList.at fun o e => hk _ o e, p2.isList.at fun o e => hk _ o e⟩) hsz hk
      · obtain ⟨its, rv, p1, hzl⟩ := I1.tuple hqx
        obtain ⟨its2, rv2, p2, _⟩ := I1.tuple hqy
        obtain ⟨o1, ho1, _⟩ := id p1
        obtain ⟨o2, ho2, _⟩ := id p2
        have q1 : s1.heap.IsTuple a its.toArray := p1
        have q2 : s1.heap.IsTuple b its2.toArray := p2
        refine RZ.call_zipT q1 q2 fun h' hz hTI hTO h1 h2 hsz hk => ?_
        refine Calls.spliced_nil ?_
        refine fin h' its its2 rv rv2 (by rw [← rv.length]; exact hzl) (Heap.lt_size ho1) (Heap.lt_size ho2) hz hTI hTO (.inr ⟨h1, h2, q1.at fun o e => hk _ o e, q2.at fun o e => hk _ o e⟩) hsz hk
end
end J

/-! ### matching -/
namespace J
open PySem L2
open Classical in
mutual
/-- the match of a pattern with a term, behind the table tb -/
noncomputable def mtc : Tm → Tm → List (Int × Tm) → Option (List (Int × Tm))
  | .var n, t, tb => match look tb n with
    | none => some (tb ++ [(n, t)])
    | some u => if u = t then some tb else none
  | .app _ _, .var _, _ => none
  | .app f ps, .app g ts, tb => if f = g ∧ ps.length = ts.length then mtcs ps ts tb else none
noncomputable def mtcs : List Tm → List Tm → List (Int × Tm) → Option (List (Int × Tm))
  | [], _, tb => some tb
  | p :: ps, ts, tb => match ts with
    | [] => some tb
    | t :: ts => (mtc p t tb).bind (mtcs ps ts)
end
theorem mtcs_nil (ts : List Tm) (tb : List (Int × Tm)) : mtcs [] ts tb = some tb := by unfold mtcs; rfl
theorem mtcs_cons (p t : Tm) (ps ts : List Tm) (tb : List (Int × Tm)) : mtcs (p :: ps) (t :: ts) tb = (mtc p t tb).bind (mtcs ps ts) := by rw [mtcs]
theorem mtc_var (n : Int) (t : Tm) (tb : List (Int × Tm)) : (look tb n = none → mtc (.var n) t tb = some (tb ++ [(n, t)])) ∧ (∀ u, look tb n = some u → (u = t → mtc (.var n) t tb = some tb) ∧ (u ≠ t → mtc (.var n) t tb = none)) := by
  refine ⟨fun h => by unfold mtc; rw [h], fun u h => ⟨fun e => by unfold mtc; rw [h]; exact if_pos e, fun e => by unfold mtc; rw [h]; exact if_neg e⟩⟩
theorem mtc_av (f : Str) (ps : List Tm) (n : Int) (tb : List (Int × Tm)) : mtc (.app f ps) (.var n) tb = none := by unfold mtc; rfl
theorem mtc_aa {f g : Str} {ps ts : List Tm} (h : f = g ∧ ps.length = ts.length) (tb : List (Int × Tm)) : mtc (.app f ps) (.app g ts) tb = mtcs ps ts tb := by rw [mtc, if_pos h]
theorem mtc_aan {f g : Str} {ps ts : List Tm} (h : ¬ (f = g ∧ ps.length = ts.length)) (tb : List (Int × Tm)) : mtc (.app f ps) (.app g ts) tb = none := by rw [mtc, if_neg h]
theorem mtcs_app : ∀ (ps ts qs us : List Tm) (tb : List (Int × Tm)), ps.length = ts.length → mtcs (ps ++ qs) (ts ++ us) tb = (mtcs ps ts tb).bind (mtcs qs us)
  | [], [], qs, us, tb, _ => by rw [mtcs_nil]; rfl
  | [], _ :: _, _, _, _, h => nomatch h
  | _ :: _, [], _, _, _, h => nomatch h
  | p :: ps, t :: ts, qs, us, tb, h => by
    rw [List.cons_append, List.cons_append, mtcs_cons, mtcs_cons]
    cases mtc p t tb with
    | none => rfl
    | some tb' => exact mtcs_app ps ts qs us tb' (Nat.succ.inj h)
theorem mtcs_take (ps ts : List Tm) (tb : List (Int × Tm)) (i : Nat) (h : ps.length = ts.length) : mtcs ps ts tb = (mtcs (ps.take i) (ts.take i) tb).bind (mtcs (ps.drop i) (ts.drop i)) := by
  rw [← mtcs_app _ _ _ _ _ (by rw [List.length_take, List.length_take, h]), List.take_append_drop, List.take_append_drop]
theorem mtcs_succ (ps ts : List Tm) (tb tb' : List (Int × Tm)) (i : Nat) (p t : Tm) (h : ps.length = ts.length) (hp : ps[i]? = some p) (ht : ts[i]? = some t) (e : mtcs (ps.take i) (ts.take i) tb = some tb') : mtcs (ps.take (i + 1)) (ts.take (i + 1)) tb = mtc p t tb' := by
  rw [list_take_succ hp, list_take_succ ht, mtcs_app _ _ _ _ _ (by rw [List.length_take, List.length_take, h]), e]
  show mtcs [p] [t] tb' = _
  rw [mtcs_cons]
  cases mtc p t tb' with
  | none => rfl
  | some x => exact mtcs_nil [] x
/-- what is bound is among the terms -/
theorem mtc_len : ∀ (n : Nat) (p t : Tm) (tb tb' : List (Int × Tm)), p.sz ≤ n → mtc p t tb = some tb' → tb'.length ≤ tb.length + p.sz
  | 0, p, _, _, _, h, _ => by have := p.sz_pos; omega
  | n + 1, .var k, t, tb, tb', _, e => by
    obtain ⟨h1, h2⟩ := mtc_var k t tb
    cases hl : look tb k with
    | none => rw [h1 hl] at e; cases e; rw [List.length_append]; exact Nat.le_refl _
    | some u =>
      by_cases z : u = t
      · rw [(h2 u hl).1 z] at e; cases e; omega
      · rw [(h2 u hl).2 z] at e; cases e
  | n + 1, .app f ps, .var _, tb, tb', _, e => by rw [mtc_av] at e; cases e
  | n + 1, .app f ps, .app g ts, tb, tb', hn, e => by
    by_cases h : f = g ∧ ps.length = ts.length
    · rw [mtc_aa h] at e
      have hn : 1 + Tm.szs ps ≤ n + 1 := hn
      have key : ∀ (ps ts : List Tm) (tb tb' : List (Int × Tm)), Tm.szs ps ≤ n → mtcs ps ts tb = some tb' → tb'.length ≤ tb.length + Tm.szs ps := by
        intro ps
        induction ps with
        | nil => intro ts tb tb' _ e; rw [mtcs_nil] at e; cases e; exact Nat.le_refl _
        | cons p ps ih =>
          intro ts tb tb' hs e
          have hs : p.sz + Tm.szs ps ≤ n := hs
          cases ts with
          | nil =>
            have : mtcs (p :: ps) [] tb = some tb := by rw [mtcs]
            rw [this] at e; cases e; omega
          | cons t ts =>
            rw [mtcs_cons] at e
            cases h1 : mtc p t tb with
            | none => rw [h1] at e; cases e
            | some t1 =>
              rw [h1] at e
              have a := mtc_len n p t tb t1 (by omega) h1
              have b := ih ts t1 tb' (by omega) e
              show tb'.length ≤ tb.length + (p.sz + Tm.szs ps)
              omega
      have := key ps ts tb tb' (by omega) e
      show tb'.length ≤ tb.length + (1 + Tm.szs ps)
      omega
    · rw [mtc_aan h] at e; cases e
/-- what is bound is a part of the terms -/
theorem mtc_sz : ∀ (n : Nat) (p t : Tm) (tb tb' : List (Int × Tm)), p.sz ≤ n → mtc p t tb = some tb' → ∀ Z : Nat, t.sz ≤ Z → (∀ x ∈ tb, x.2.sz ≤ Z) → ∀ x ∈ tb', x.2.sz ≤ Z
  | 0, p, _, _, _, h, _ => by have := p.sz_pos; omega
  | n + 1, .var k, t, tb, tb', _, e => by
    intro Z hZ hb x hx
    obtain ⟨h1, h2⟩ := mtc_var k t tb
    cases hl : look tb k with
    | none =>
      rw [h1 hl] at e; cases e
      rcases List.mem_append.mp hx with z | z
      · exact hb x z
      · rw [List.mem_singleton.mp z]; exact hZ
    | some u =>
      by_cases z : u = t
      · rw [(h2 u hl).1 z] at e; cases e; exact hb x hx
      · rw [(h2 u hl).2 z] at e; cases e
  | n + 1, .app f ps, .var _, tb, tb', _, e => by rw [mtc_av] at e; cases e
  | n + 1, .app f ps, .app g ts, tb, tb', hn, e => by
    intro Z hZ hb
    by_cases h : f = g ∧ ps.length = ts.length
    · rw [mtc_aa h] at e
      have hn : 1 + Tm.szs ps ≤ n + 1 := hn
      have hZ : 1 + Tm.szs ts ≤ Z := hZ
      have key : ∀ (ps ts : List Tm) (tb tb' : List (Int × Tm)), Tm.szs ps ≤ n → Tm.szs ts ≤ Z → mtcs ps ts tb = some tb' → (∀ x ∈ tb, x.2.sz ≤ Z) → ∀ x ∈ tb', x.2.sz ≤ Z := by
        intro ps
        induction ps with
        | nil => intro ts tb tb' _ _ e hb; rw [mtcs_nil] at e; cases e; exact hb
        | cons p ps ih =>
          intro ts tb tb' hs ht e hb
          have hs : p.sz + Tm.szs ps ≤ n := hs
          cases ts with
          | nil =>
            have : mtcs (p :: ps) [] tb = some tb := by rw [mtcs]
            rw [this] at e; cases e; exact hb
          | cons t ts =>
            have ht : t.sz + Tm.szs ts ≤ Z := ht
            rw [mtcs_cons] at e
            cases h1 : mtc p t tb with
            | none => rw [h1] at e; cases e
            | some t1 =>
              rw [h1] at e
              exact ih ts t1 tb' (by omega) (by omega) e (mtc_sz n p t tb t1 (by omega) h1 Z (by omega) hb)
      exact key ps ts tb tb' (by omega) (by omega) e hb
    · rw [mtc_aan h] at e; cases e
theorem mtcs_sz : ∀ (ps ts : List Tm) (tb tb' : List (Int × Tm)) (Z : Nat), Tm.szs ts ≤ Z → mtcs ps ts tb = some tb' → (∀ x ∈ tb, x.2.sz ≤ Z) → ∀ x ∈ tb', x.2.sz ≤ Z
  | [], ts, tb, tb', Z, _, e, hb => by rw [mtcs_nil] at e; cases e; exact hb
  | p :: ps, [], tb, tb', Z, _, e, hb => by
    have : mtcs (p :: ps) [] tb = some tb := by rw [mtcs]
    rw [this] at e; cases e; exact hb
  | p :: ps, t :: ts, tb, tb', Z, hz, e, hb => by
    have hz : t.sz + Tm.szs ts ≤ Z := hz
    rw [mtcs_cons] at e
    cases h1 : mtc p t tb with
    | none => rw [h1] at e; cases e
    | some t1 =>
      rw [h1] at e
      exact mtcs_sz ps ts t1 tb' Z (by omega) e (mtc_sz p.sz p t tb t1 (Nat.le_refl _) h1 Z (by omega) hb)
theorem mtcs_len : ∀ (ps ts : List Tm) (tb tb' : List (Int × Tm)), mtcs ps ts tb = some tb' → tb'.length ≤ tb.length + Tm.szs ps
  | [], ts, tb, tb', e => by rw [mtcs_nil] at e; cases e; exact Nat.le_refl _
  | p :: ps, [], tb, tb', e => by
    have : mtcs (p :: ps) [] tb = some tb := by rw [mtcs]
    rw [this] at e; cases e; exact Nat.le_add_right _ _
  | p :: ps, t :: ts, tb, tb', e => by
    rw [mtcs_cons] at e
    cases h1 : mtc p t tb with
    | none => rw [h1] at e; cases e
    | some t1 =>
      rw [h1] at e
      have a := mtc_len p.sz p t tb t1 (Nat.le_refl _) h1
      have b := mtcs_len ps ts t1 tb' e
      show tb'.length ≤ tb.length + (p.sz + Tm.szs ps)
      omega
/-! pairs of terms that wait -/
def PrIn (H : Hp) : List V → List (Tm × Tm) → Prop
  | [], [] => True
  | w :: ws, x :: xs => (∃ (a : Addr) (u v : V), w = .ref a ∧ H a = some (.tup [u, v]) ∧ TmIn H x.1 u ∧ TmIn H x.2 v) ∧ PrIn H ws xs
  | _, _ => False
theorem PrIn.tu {H H' : Hp} (t : Tu H H') : ∀ {ws : List V} {xs : List (Tm × Tm)}, PrIn H ws xs → PrIn H' ws xs
  | [], [], _ => trivial
  | [], _ :: _, h => h.elim
  | _ :: _, [], h => h.elim
  | _ :: _, _ :: _, ⟨⟨a, u, v, e, h1, h2, h3⟩, h⟩ => ⟨⟨a, u, v, e, t _ _ h1, h2.tu t, h3.tu t⟩, PrIn.tu t h⟩
theorem PrIn.app {H : Hp} : ∀ {ws vs : List V} {xs ys : List (Tm × Tm)}, PrIn H ws xs → PrIn H vs ys → PrIn H (ws ++ vs) (xs ++ ys)
  | [], _, [], _, _, q => q
  | [], _, _ :: _, _, h, _ => h.elim
  | _ :: _, _, [], _, h, _ => h.elim
  | _ :: _, _, _ :: _, _, h, q => ⟨h.1, PrIn.app h.2 q⟩
theorem PrIn.length {H : Hp} : ∀ {ws : List V} {xs : List (Tm × Tm)}, PrIn H ws xs → ws.length = xs.length
  | [], [], _ => rfl
  | [], _ :: _, h => h.elim
  | _ :: _, [], h => h.elim
  | _ :: _, _ :: _, h => congrArg (· + 1) (PrIn.length h.2)
theorem PrIn.get {H : Hp} : ∀ {ws : List V} {xs : List (Tm × Tm)} {i : Nat} {w : V}, PrIn H ws xs → ws[i]? = some w → ∃ x a u v, xs[i]? = some x ∧ w = .ref a ∧ H a = some (.tup [u, v]) ∧ TmIn H x.1 u ∧ TmIn H x.2 v
  | [], _, i, _, _, e => by simp at e
  | _ :: _, [], _, _, h, _ => h.elim
  | y :: ws, x :: xs, 0, w, h, e => by
    obtain ⟨⟨a, u, v, h1, h2, h3, h4⟩, _⟩ := h
    have e : y = w := by simpa using e
    exact ⟨x, a, u, v, rfl, e ▸ h1, h2, h3, h4⟩
  | y :: ws, x :: xs, i + 1, w, h, e => by
    obtain ⟨x', a, u, v, h1, h2⟩ := PrIn.get h.2 (i := i) (w := w) (by simpa using e)
    exact ⟨x', a, u, v, by simpa using h1, h2⟩
theorem PrIn.snoc {H : Hp} {ws : List V} {xs : List (Tm × Tm)} (h : PrIn H ws xs) (hne : ws ≠ []) : ∃ ws' w xs' x, ws = ws' ++ [w] ∧ xs = xs' ++ [x] ∧ PrIn H ws' xs' ∧ PrIn H [w] [x] := by
  induction ws generalizing xs with
  | nil => exact absurd rfl hne
  | cons w ws ih =>
    cases xs with
    | nil => exact h.elim
    | cons x xs =>
      by_cases z : ws = []
      · subst z
        cases xs with
        | nil => exact ⟨[], w, [], x, rfl, rfl, trivial, h⟩
        | cons y ys => exact h.2.elim
      · obtain ⟨ws', w', xs', x', e1, e2, h1, h2⟩ := ih h.2 z
        exact ⟨w :: ws', w', x :: xs', x', by rw [e1]; rfl, by rw [e2]; rfl, ⟨h.1, h1⟩, h2⟩
/-- what list(zip(..)) made of two rows of terms -/
theorem PrIn.of_zip {H' : Hp} : ∀ {ts : List Addr} {us vs : List V} {ps qs : List Tm}, TmsIn H' ps us → TmsIn H' qs vs → ps.length = qs.length → Paired (fun (t : Addr) (q : V × V) => H' t = some (.tup [q.1, q.2])) ts (us.zip vs) → PrIn H' (ts.map V.ref) (ps.zip qs)
  | ts, us, vs, [], [], h1, h2, _, h => by
    cases (show us = [] from h1)
    cases (show vs = [] from h2)
    cases h
    exact trivial
  | _, _, _, [], _ :: _, _, _, h, _ => nomatch h
  | _, _, _, _ :: _, [], _, _, h, _ => nomatch h
  | ts, us, vs, p :: ps, q :: qs, ⟨u, us', e1, h1, h2⟩, ⟨v, vs', e2, h3, h4⟩, hl, h => by
    subst e1 e2
    rw [List.zip_cons_cons] at h
    cases h with
    | cons r t => exact ⟨⟨_, u, v, rfl, r, h1, h3⟩, PrIn.of_zip h2 h4 (Nat.succ.inj hl) t⟩
theorem zip_rev {α β : Type} : ∀ (xs : List α) (ys : List β), xs.length = ys.length → xs.reverse.zip ys.reverse = (xs.zip ys).reverse
  | [], [], _ => rfl
  | [], _ :: _, h => nomatch h
  | _ :: _, [], h => nomatch h
  | x :: xs, y :: ys, h => by
    have h := Nat.succ.inj h
    rw [List.reverse_cons, List.reverse_cons, List.zip_cons_cons, List.reverse_cons, ← zip_rev xs ys h, List.zip_append (by rw [List.length_reverse, List.length_reverse]; exact h)]
    rfl
end J

/-! ### rules: what is_rule tells, the first equation that is none -/
namespace J
open PySem L2 PyProof.Rows
noncomputable def isRule : Tm → Tm → Bool
  | .var _, _ => false
  | .app f ts, r => (vars r).all fun n => decide (n ∈ vars (.app f ts))
noncomputable def fbad (xs : List (Tm × Tm)) : Option Nat := xs.findIdx? fun x => !isRule x.1 x.2
theorem fbad_at {xs : List (Tm × Tm)} {i : Nat} {x : Tm × Tm} (h : ∀ y ∈ xs.take i, isRule y.1 y.2 = true) (g : xs[i]? = some x) (b : isRule x.1 x.2 = false) : fbad xs = some i := by
  unfold fbad
  rw [List.findIdx?_eq_some_iff_getElem]
  have hi := (List.getElem?_eq_some_iff.mp g).1
  have e := (List.getElem?_eq_some_iff.mp g).2
  refine ⟨hi, by rw [e, b]; rfl, fun j hj => ?_⟩
  have := h xs[j] (by rw [List.mem_take_iff_getElem]; exact ⟨j, by omega, rfl⟩)
  rw [this]; decide
theorem fbad_none {xs : List (Tm × Tm)} (h : ∀ y ∈ xs, isRule y.1 y.2 = true) : fbad xs = none := by
  unfold fbad
  rw [List.findIdx?_eq_none_iff]
  intro y hy
  rw [h y hy]; rfl
def fbI : Option Nat → Int
  | some i => (i : Int)
  | none => -1
def RulesOk (xs : List (Tm × Tm)) : Prop := ∀ x ∈ xs, x.1.sz ≤ 10000 ∧ x.2.sz ≤ 10000 ∧ x.1.dep ≤ 50 ∧ x.2.dep ≤ 50
end J

/-! ### an error with an __init__ that is made where nothing is handled, its context told; a def that may let it out -/
namespace J
open PySem L2 PyProof.Rows
theorem made_new {X : Cx} {C fI : Addr} {k : Nat} {fd : FuncData} {ps : List Str} {sp : Sp} (T : OexC X.K C) (iC : PySem.W.findIn X.K (.ref C) "__init__" = some (some (.ref fI))) (tI : PySem.W.typeIn X.K (.ref fI) = some (.type "function"))
    (F1 : FnOk X.prog X.w X.K X.mg X.base CX0 k fI fd ps sp) (hr : Room (k + 1) X.A) (hb : Binds X.K fd ps [])
    {pins : List (Addr × Obj)} {σ : L2.St} {H1 : Hp} {Q : XK} {vs : List V} {us : List Value} (s : Shared) (I : Inv X pins σ H1 s) (rv : Vals vs us) (hz : vs.length ≤ 1000)
    (q : ∀ a, H1 a = none → sp (.ref a :: vs) (upd H1 a (exo a C none))
      (fun v H2 => v = .non ∧ ∃ (d : Addr) (fs : List (Str × V)), H2 a = some (exo a C (some d)) ∧ H2 d = some (exd d fs) ∧ H1 d = none ∧ Q (.ref C) (some d) (upd (del H2 a) d (.xd fs))) E0) :
    wpAny (model X.prog X.w) X.A (call (.ref C) us) (L2N.MkP X pins σ Q) X.xe s := by
  obtain ⟨hp, g, dr, tk, os⟩ := s
  obtain ⟨nm, qn, N, bs, bm, sn, sub, ab, col, dd, k0, k1, k2, k3, k5, hC, hbm⟩ := T.cls
  -- the new object, behind the tuple of its arguments
  let e := hp.objs.size + 1
  have he : H1 e = none := I.hok.fresh (Nat.le_succ _)
  have grow : ∀ b o, hp.get? b = some o → ((hp.push (PySem.W.kdv_tup us)).push (PySem.HandSPX.excO C hp.objs.size)).get? b = some o := fun b o z => Heap.get?_push_of_some _ (Heap.get?_push_of_some _ z)
  have there : ((hp.push (PySem.W.kdv_tup us)).push (PySem.HandSPX.excO C hp.objs.size)).get? e = some (PySem.HandSPX.excO C hp.objs.size) := by
    show Heap.get? _ (hp.objs.size + 1) = _
    heap_get
  have J := I.laid (t' := tk) (a := e) (o := exo e C none) (h' := (hp.push (PySem.W.kdv_tup us)).push (PySem.HandSPX.excO C hp.objs.size)) grow (Nat.le_succ _) (exo_ok there)
  have rv' : Vals (V.ref e :: vs) (Value.ref e :: us) := .cons rfl rv
  have ul : us.length ≤ sizeLine := by
    rw [← Paired.length rv, sizeLine_eq]
    omega
  have nl : (Value.ref e :: us ++ []).length = ps.length := by
    have z := rv'.length
    rw [F1.len _ _ _ _ (q e he)] at z
    rw [List.append_nil]
    exact z.symm
  refine wpAny_call (PySem.HandSPX.call_own F.excBase_ValueError (fun Y => PySem.HandSPX.refsVE_contains Y bm hbm) (I.kIn _ _ hC) (PySem.W.looks_findIn I.kIn iC) (fun self => PySem.W.bind_fn I.kIn self tI) ul ?_)
  have bnd := hb _ (Value.ref e :: us) J.kIn nl
  rw [List.append_nil] at bnd
  refine codeAny_mono (F1.run _ X.stack _ _ ⟨Value.ref e :: us, []⟩ (Value.ref e :: us) _ _ E0 (hr.make C us []) (J.env0.make C us []) bnd rv' (q e he)) fun r s' z => ?_
  match r, z with
  | .error _, z => exact (show False from z).elim
  | .ok (.ret _), ⟨v, H2, eos, bare, un, ok2, rv2, ev, d, fs, ea, ed, fresh, fin⟩ =>
    subst ev
    obtain ⟨h2, g2, d2, t2, os2⟩ := s'
    obtain ⟨t0, G, JG, kG, nG, oG, hG⟩ := mk_end0 (d2 := d2) (t2 := t2) I (Nat.le_succ _) grow un ok2 eos bare ea ed fresh
    exact ⟨rv2, e, _, _, ⟨G, g2, d2, t2, os2⟩, _, .ref C, some d, rfl, JG, kG, nG, oG, ⟨rfl, rfl, fun w z => by cases z; rfl⟩, rfl, rfl, hG, rfl, bare, raises_own T.exC T.tyC, fin⟩
  | .ok .next, z => exact (show False from z).elim
  | .ok .brk, z => exact (show False from z).elim
  | .ok .cont, z => exact (show False from z).elim
theorem pmkN_oex {X : Cx} {x : Str} {C fI : Addr} {k : Nat} {fd : FuncData} {ps : List Str} {sp : Sp} {e : Expr} {es : List Expr} {ta : TA} {p pos : Pos} (T : OexC X.K C) (iC : PySem.W.findIn X.K (.ref C) "__init__" = some (some (.ref fI))) (tI : PySem.W.typeIn X.K (.ref fI) = some (.type "function"))
    (F1 : FnOk X.prog X.w X.K X.mg X.base CX0 k fI fd ps sp) (hr : Room (k + 1) X.A) (hb : Binds X.K fd ps []) (hg : Gl X x) (hm : X.mg x = some (.ref C)) (ha : PA X (e :: es) ta)
    (hdb : (x == ("__debug__" : Str)) = false := by decide) (he : starEach (e :: es) X.env = (false, eval e X.env) :: starEach es X.env := by rfl) (hpl : (backTo pos (starEach es X.env)).any (·.1) = false := by rfl) :
    L2N.PMk X (.Call (.Name x p) (e :: es) [] pos) (tMkO C sp [] ta) := by
  intro pins s σ H Q I h
  refine wpAny_Call_Name_kw (ld_glob I hg hm ?_ hdb)
  refine PySem.W.callWith_K (h₀ := X.base) I.ok.mod.kin T.kC (thn (ha.run pos pins s σ H _ I h) fun us s1 ⟨vs, H1, I1, r1, hz, q1⟩ => ⟨I1.kIn, ?_⟩) he hpl
  refine made_new T iC tI F1 hr hb s1 I1 r1 hz fun a na => ?_
  have z := q1 a na
  rw [List.append_nil] at z
  exact z
/-- a def that may raise, the context of what it lets out told -/
theorem okN {P : Program} {w : World} {K : PySem.W.Frag} {mg : Str → Option Value} {base : Heap} {x qual : Str} {st : Stmt} {f : Addr} {fd : FuncData} {N ps : List Str} {k : Nat} {sp : Sp} (F : Fun K x qual st f fd) (S : FnScope N ps (defScope st)) (len : ∀ vs H Q E, sp vs H Q E → vs.length = ps.length)
    (hbody : ∀ (cdv : Value) (A : Around) (outer : List Env) (s : Shared) (H : Hp) (vs : List V) (Q : VK) (E : XK), Room k (A.deeper (envOfC qual (defScope st) s.heap.objs.size f cdv)) → sp vs H Q E →
      ∃ t, PSs (cxOf (L2N.CX P w) P w K mg base N qual (defScope st) f cdv A outer s H E) (defBody st) t ∧ t { nx := fun _ H' => Q .non H', rt := Q } (L2.start N vs) H) : FnOk P w K mg base (L2N.CX P w) (k + 1) f fd ps sp := by
  obtain ⟨_, _, _, _, _, _, _, _, _, rfl, lk, hcd⟩ := F.ex
  exact fn_of lk hcd S len fun A outer s H vs Q E hr hsp => hbody _ A outer s H vs Q E hr hsp
/-- a def that is called while one error is handled -/
theorem okH {P : Program} {w : World} {K : PySem.W.Frag} {mg : Str → Option Value} {base : Heap} {x qual : Str} {st : Stmt} {f : Addr} {fd : FuncData} {N ps : List Str} {k : Nat} {sp : Sp} (F : Fun K x qual st f fd) (S : FnScope N ps (defScope st)) (len : ∀ vs H Q E, sp vs H Q E → vs.length = ps.length)
    (hbody : ∀ (cdv : Value) (A : Around) (outer : List Env) (s : Shared) (H : Hp) (vs : List V) (Q : VK) (E : XK) (p : Addr × Obj), L2H.RoomH k (A.deeper (envOfC qual (defScope st) s.heap.objs.size f cdv)) → sp vs H Q E →
      ∃ t, PSs (L2H.cxH CX0 P w K mg base N qual (defScope st) f cdv A outer s H E p) (defBody st) t ∧ t { nx := fun _ H' => Q .non H', rt := Q } (L2.start N vs) H) : L2H.FnH P w K mg base CX0 (k + 1) f fd ps sp := by
  obtain ⟨_, _, _, _, _, _, _, _, _, rfl, lk, hcd⟩ := F.ex
  exact L2H.fn_ofH lk hcd S len fun A outer s H vs Q E p _ hr hsp => hbody _ A outer s H vs Q E p hr hsp
theorem hot_of {X : Cx} {a : Addr} {oe : Obj} {cls : Value} {d : Option Addr} {pn : List (Addr × Obj)} (hz : L2N.Zn cls d oe) (hf : ∃ vs, oe.data = .fields vs) : L2H.HotC (X.suite a ((a, oe) :: pn)) := by
  obtain ⟨vs, hv⟩ := hf
  exact ⟨(a, oe), ⟨rfl, vs, hv, hz.2.2 vs hv⟩, List.mem_cons_self⟩
theorem takesN0 {X : Cx} : L2N.Takes X (fun _ _ _ _ => False) := fun _ _ x => by
  obtain ⟨_, _, _, _, _, _, _, _, _, _, _, _, _, _, _, _, z⟩ := x
  exact z.elim
theorem passH0 {X : Cx} {σ : L2.St} {E : XK} : PassesAt CX0 X σ E := fun _ _ _ _ _ _ c => c.elim
end J

/-! ### how often and how deep the variables of a term stand; for k, v in d.items() -/
namespace J
open PySem L2
mutual
/-- the variables with their levels, the whole at level k -/
def olv (k : Nat) : Tm → List (Int × Nat)
  | .var n => [(n, k)]
  | .app _ ts => olvs (k + 1) ts
def olvs (k : Nat) : List Tm → List (Int × Nat)
  | [] => []
  | t :: ts => olv k t ++ olvs k ts
end
theorem olvs_app (k : Nat) : ∀ a b : List Tm, olvs k (a ++ b) = olvs k a ++ olvs k b
  | [], _ => rfl
  | t :: a, b => by show olv k t ++ olvs k (a ++ b) = (olv k t ++ olvs k a) ++ olvs k b; rw [olvs_app k a b, List.append_assoc]
mutual
theorem olv_occ (k : Nat) : ∀ t : Tm, (olv k t).map (·.1) = occ t
  | .var _ => rfl
  | .app _ ts => olvs_occ (k + 1) ts
theorem olvs_occ (k : Nat) : ∀ ts : List Tm, (olvs k ts).map (·.1) = occs ts
  | [] => rfl
  | t :: ts => by show (olv k t ++ olvs k ts).map _ = _; rw [List.map_append, olv_occ k t, olvs_occ k ts]; rfl
end
/-- sums and greatest depths over such a list -/
def osum (w : Int → Nat) (l : List (Int × Nat)) : Nat := (l.map fun x => w x.1).sum
def omx (d : Int → Nat) : List (Int × Nat) → Nat
  | [] => 0
  | x :: r => max (x.2 - 1 + d x.1) (omx d r)
theorem osum_app (w : Int → Nat) (a b : List (Int × Nat)) : osum w (a ++ b) = osum w a + osum w b := by unfold osum; rw [List.map_append, List.sum_append]
theorem omx_app (d : Int → Nat) : ∀ a b : List (Int × Nat), omx d (a ++ b) = max (omx d a) (omx d b)
  | [], b => (Nat.zero_max _).symm
  | x :: a, b => by show max _ (omx d (a ++ b)) = max (max _ (omx d a)) _; rw [omx_app d a b]; omega
theorem osum_perm (w : Int → Nat) {a b : List (Int × Nat)} (h : a.Perm b) : osum w a = osum w b := (h.map _).sum_nat
theorem omx_perm (d : Int → Nat) {a b : List (Int × Nat)} (h : a.Perm b) : omx d a = omx d b := by
  induction h with
  | nil => rfl
  | cons x _ ih => show max _ _ = max _ _; rw [ih]
  | swap x y l => show max _ (max _ _) = max _ (max _ _); omega
  | trans _ _ ih1 ih2 => exact ih1.trans ih2
mutual
theorem sub_szE (m : Int → Option Tm) : ∀ (k : Nat) (t : Tm), (sub m t).sz = t.sz + osum (fun n => ((m n).getD (.var n)).sz - 1) (olv k t)
  | k, .var n => by
    have := Tm.sz_pos ((m n).getD (.var n))
    show ((m n).getD (.var n)).sz = 1 + (((m n).getD (.var n)).sz - 1 + 0)
    omega
  | k, .app _ ts => by
    have := subs_szE m (k + 1) ts
    show 1 + Tm.szs (subs m ts) = (1 + Tm.szs ts) + osum _ (olvs (k + 1) ts)
    omega
theorem subs_szE (m : Int → Option Tm) : ∀ (k : Nat) (ts : List Tm), Tm.szs (subs m ts) = Tm.szs ts + osum (fun n => ((m n).getD (.var n)).sz - 1) (olvs k ts)
  | _, [] => rfl
  | k, t :: ts => by
    have h1 := sub_szE m k t
    have h2 := subs_szE m k ts
    show (sub m t).sz + Tm.szs (subs m ts) = (t.sz + Tm.szs ts) + osum _ (olv k t ++ olvs k ts)
    rw [osum_app]
    omega
end
mutual
theorem sub_depE (m : Int → Option Tm) : ∀ (k : Nat) (t : Tm), k + (sub m t).dep = max (k + t.dep) (omx (fun n => ((m n).getD (.var n)).dep) (olv (k + 1) t))
  | k, .var n => by
    have := Tm.dep_pos ((m n).getD (.var n))
    show k + ((m n).getD (.var n)).dep = max (k + 1) (max (k + 1 - 1 + ((m n).getD (.var n)).dep) 0)
    omega
  | k, .app _ ts => by
    have := subs_depE m (k + 1) ts
    show k + (1 + Tm.deps (subs m ts)) = max (k + (1 + Tm.deps ts)) (omx _ (olvs (k + 1 + 1) ts))
    omega
theorem subs_depE (m : Int → Option Tm) : ∀ (k : Nat) (ts : List Tm), k + Tm.deps (subs m ts) = max (k + Tm.deps ts) (omx (fun n => ((m n).getD (.var n)).dep) (olvs (k + 1) ts))
  | k, [] => by show k + 0 = max (k + 0) 0; omega
  | k, t :: ts => by
    have h1 := sub_depE m k t
    have h2 := subs_depE m k ts
    show k + max (sub m t).dep (Tm.deps (subs m ts)) = max (k + max t.dep (Tm.deps ts)) (omx _ (olv (k + 1) t ++ olvs (k + 1) ts))
    rw [omx_app]
    omega
end
/-- the next row of a walk by levels -/
def kidsOf : List Tm → List Tm
  | [] => []
  | .var _ :: r => kidsOf r
  | .app _ ts :: r => ts ++ kidsOf r
def varsAt (k : Nat) : List Tm → List (Int × Nat)
  | [] => []
  | .var n :: r => (n, k) :: varsAt k r
  | .app _ _ :: r => varsAt k r
theorem varsAt_app (k : Nat) : ∀ a b : List Tm, varsAt k (a ++ b) = varsAt k a ++ varsAt k b
  | [], _ => rfl
  | .var n :: a, b => congrArg _ (varsAt_app k a b)
  | .app _ _ :: a, b => varsAt_app k a b
theorem row_perm (k : Nat) : ∀ r : List Tm, (varsAt k r ++ olvs (k + 1) (kidsOf r)).Perm (olvs k r)
  | [] => List.Perm.refl _
  | .var n :: r => (row_perm k r).cons _
  | .app _ ts :: r => by
    show (varsAt k r ++ olvs (k + 1) (ts ++ kidsOf r)).Perm (olvs (k + 1) ts ++ olvs k r)
    rw [olvs_app]
    refine List.Perm.trans ?_ ((row_perm k r).append_left _)
    rw [← List.append_assoc, ← List.append_assoc]
    exact (List.perm_append_comm (l₁ := varsAt k r) (l₂ := olvs (k + 1) ts)).append_right _
/-! tallies -/
abbrev Tl := List (Int × Nat × Nat)
def tput (tl : Tl) (n : Int) (l : Nat) : Tl := if n ∈ tl.map (·.1) then tl.map (fun x => if x.1 = n then (x.1, x.2.1 + 1, l) else x) else tl ++ [(n, 1, l)]
def tsum (w : Int → Nat) (tl : Tl) : Nat := (tl.map fun x => x.2.1 * w x.1).sum
def tmx (d : Int → Nat) : Tl → Nat
  | [] => 0
  | x :: r => max (x.2.2 - 1 + d x.1) (tmx d r)
theorem tmx_app (d : Int → Nat) : ∀ a b : Tl, tmx d (a ++ b) = max (tmx d a) (tmx d b)
  | [], b => (Nat.zero_max _).symm
  | x :: a, b => by show max _ (tmx d (a ++ b)) = max (max _ (tmx d a)) _; rw [tmx_app d a b]; omega
theorem tput_keys (tl : Tl) (n : Int) (l : Nat) : (tput tl n l).map (·.1) = if n ∈ tl.map (·.1) then tl.map (·.1) else tl.map (·.1) ++ [n] := by
  unfold tput
  by_cases h : n ∈ tl.map (·.1)
  · rw [if_pos h, if_pos h, List.map_map]
    refine List.map_congr_left fun x _ => ?_
    show (if x.1 = n then (x.1, x.2.1 + 1, l) else x).1 = x.1
    split <;> rfl
  · rw [if_neg h, if_neg h, List.map_append]; rfl
theorem map_no (tl : Tl) (n : Int) (l : Nat) (h : n ∉ tl.map (·.1)) : tl.map (fun x => if x.1 = n then (x.1, x.2.1 + 1, l) else x) = tl := by
  refine (List.map_congr_left fun x hx => ?_).trans (List.map_id _)
  exact if_neg fun z => h (List.mem_map.mpr ⟨x, hx, z⟩)
theorem tsum_put (w : Int → Nat) (n : Int) (l : Nat) : ∀ tl : Tl, (tl.map (·.1)).Nodup → tsum w (tput tl n l) = tsum w tl + w n := by
  intro tl nd
  unfold tput
  by_cases h : n ∈ tl.map (·.1)
  · rw [if_pos h]
    induction tl with
    | nil => cases h
    | cons x r ih =>
      rw [List.map_cons, List.nodup_cons] at nd
      by_cases e : x.1 = n
      · subst e
        rw [List.map_cons, if_pos rfl, map_no r x.1 l nd.1]
        show (x.2.1 + 1) * w x.1 + tsum w r = x.2.1 * w x.1 + tsum w r + w x.1
        rw [Nat.add_mul, Nat.one_mul]; omega
      · rw [List.map_cons, if_neg e]
        have h : n ∈ r.map (·.1) := by
          rw [List.map_cons] at h
          exact (List.mem_cons.mp h).resolve_left fun z => e z.symm
        have := ih nd.2 h
        show x.2.1 * w x.1 + tsum w _ = x.2.1 * w x.1 + tsum w r + w n
        omega
  · rw [if_neg h]
    unfold tsum
    rw [List.map_append, List.sum_append]
    show _ + (1 * w n + 0) = _
    omega
theorem tmx_put (d : Int → Nat) (n : Int) (l : Nat) : ∀ tl : Tl, (tl.map (·.1)).Nodup → (∀ x ∈ tl, x.2.2 ≤ l) → tmx d (tput tl n l) = max (tmx d tl) (l - 1 + d n) := by
  intro tl nd hl
  unfold tput
  by_cases h : n ∈ tl.map (·.1)
  · rw [if_pos h]
    induction tl with
    | nil => cases h
    | cons x r ih =>
      rw [List.map_cons, List.nodup_cons] at nd
      have hx := hl x (List.mem_cons_self ..)
      by_cases e : x.1 = n
      · subst e
        rw [List.map_cons, if_pos rfl, map_no r x.1 l nd.1]
        show max (l - 1 + d x.1) (tmx d r) = max (max (x.2.2 - 1 + d x.1) (tmx d r)) (l - 1 + d x.1)
        omega
      · rw [List.map_cons, if_neg e]
        have h : n ∈ r.map (·.1) := by
          rw [List.map_cons] at h
          exact (List.mem_cons.mp h).resolve_left fun z => e z.symm
        have := ih nd.2 (fun y hy => hl y (List.mem_cons_of_mem _ hy)) h
        show max (x.2.2 - 1 + d x.1) (tmx d _) = max (max (x.2.2 - 1 + d x.1) (tmx d r)) _
        omega
  · rw [if_neg h, tmx_app]
    show max _ (max (l - 1 + d n) 0) = _
    omega
/-- tl counts ols, whose levels are at most L -/
structure Tal (L : Nat) (tl : Tl) (ols : List (Int × Nat)) : Prop where
  nd : (tl.map (·.1)).Nodup
  lv : ∀ x ∈ tl, x.2.2 ≤ L
  lo : ∀ x ∈ tl, 1 ≤ x.2.2
  sum : ∀ w, tsum w tl = osum w ols
  mx : ∀ d, tmx d tl = omx d ols
  mem : ∀ n, n ∈ tl.map (·.1) ↔ n ∈ ols.map (·.1)
  ct : ∀ x ∈ tl, x.2.1 ≤ ols.length
  len : tl.length ≤ ols.length
theorem Tal.nil : Tal 0 [] [] := ⟨List.nodup_nil, (fun _ h => nomatch h), (fun _ h => nomatch h), fun _ => rfl, fun _ => rfl, fun _ => Iff.rfl, (fun _ h => nomatch h), Nat.le_refl _⟩
theorem Tal.mono {L M : Nat} {tl : Tl} {ols : List (Int × Nat)} (h : Tal L tl ols) (le : L ≤ M) : Tal M tl ols := ⟨h.nd, fun x hx => Nat.le_trans (h.lv x hx) le, h.lo, h.sum, h.mx, h.mem, h.ct, h.len⟩
theorem Tal.perm {L : Nat} {tl : Tl} {a b : List (Int × Nat)} (h : Tal L tl a) (p : a.Perm b) : Tal L tl b :=
  ⟨h.nd, h.lv, h.lo, fun w => (h.sum w).trans (osum_perm w p), fun d => (h.mx d).trans (omx_perm d p), fun n => (h.mem n).trans (p.map _).mem_iff, fun x hx => by rw [← p.length_eq]; exact h.ct x hx, by rw [← p.length_eq]; exact h.len⟩
theorem Tal.put {L : Nat} {tl : Tl} {ols : List (Int × Nat)} (h : Tal L tl ols) (n : Int) (hL : 1 ≤ L) : Tal L (tput tl n L) (ols ++ [(n, L)]) := by
  refine ⟨?_, fun x hx => ?_, fun x hx => ?_, fun w => ?_, fun d => ?_, fun k => ?_, fun x hx => ?_, ?_⟩
  · rw [tput_keys]
    by_cases z : n ∈ tl.map (·.1)
    · rw [if_pos z]; exact h.nd
    · rw [if_neg z]
      refine List.nodup_append.mpr ⟨h.nd, (by simp), fun a ha b hb => ?_⟩
      rw [List.mem_singleton] at hb
      exact fun e => z (by rw [← hb, ← e]; exact ha)
  · unfold tput at hx
    split at hx
    · obtain ⟨y, hy, e⟩ := List.mem_map.mp hx
      rw [← e]
      split
      · exact Nat.le_refl _
      · exact h.lv y hy
    · rcases List.mem_append.mp hx with hx | hx
      · exact h.lv x hx
      · rw [List.mem_singleton.mp hx]; exact Nat.le_refl _
  · unfold tput at hx
    split at hx
    · obtain ⟨y, hy, e⟩ := List.mem_map.mp hx
      rw [← e]
      split
      · exact hL
      · exact h.lo y hy
    · rcases List.mem_append.mp hx with hx | hx
      · exact h.lo x hx
      · rw [List.mem_singleton.mp hx]; exact hL
  · rw [tsum_put w n L tl h.nd, h.sum, osum_app]; rfl
  · rw [tmx_put d n L tl h.nd h.lv, h.mx, omx_app]
    show _ = max _ (max (L - 1 + d n) 0)
    omega
  · rw [tput_keys, List.map_append, List.mem_append, ← h.mem k]
    by_cases z : n ∈ tl.map (·.1)
    · rw [if_pos z]
      exact ⟨.inl, fun w => w.elim id fun w => by rw [List.mem_singleton.mp w]; exact z⟩
    · rw [if_neg z, List.mem_append]; exact Iff.rfl
  · unfold tput at hx
    rw [List.length_append, List.length_singleton]
    split at hx
    · obtain ⟨y, hy, e⟩ := List.mem_map.mp hx
      have := h.ct y hy
      rw [← e]
      split
      · show y.2.1 + 1 ≤ _; omega
      · omega
    · rcases List.mem_append.mp hx with hx | hx
      · have := h.ct x hx; omega
      · rw [List.mem_singleton.mp hx]; show 1 ≤ _; omega
  · have e : (tput tl n L).length ≤ tl.length + 1 := by
      unfold tput
      split
      · rw [List.length_map]; omega
      · rw [List.length_append]; exact Nat.le_refl _
    have := h.len
    rw [List.length_append, List.length_singleton]; omega
/-- the dict holds the tally -/
def TalIn (H : Hp) : List (Key × V) → Tl → Prop
  | [], [] => True
  | kv :: r, x :: l => kv.1 = .inl x.1 ∧ (∃ a, kv.2 = .ref a ∧ H a = some (.tup [.int (x.2.1 : Int), .int (x.2.2 : Int)])) ∧ TalIn H r l
  | _, _ => False
theorem TalIn.tu {H H' : Hp} (t : Tu H H') : ∀ {kvs : List (Key × V)} {tl : Tl}, TalIn H kvs tl → TalIn H' kvs tl
  | [], [], _ => trivial
  | [], _ :: _, h => h.elim
  | _ :: _, [], h => h.elim
  | _ :: _, _ :: _, ⟨e, ⟨a, e2, h⟩, r⟩ => ⟨e, ⟨a, e2, t _ _ h⟩, TalIn.tu t r⟩
theorem TalIn.length {H : Hp} : ∀ {kvs : List (Key × V)} {tl : Tl}, TalIn H kvs tl → kvs.length = tl.length
  | [], [], _ => rfl
  | [], _ :: _, h => h.elim
  | _ :: _, [], h => h.elim
  | _ :: _, _ :: _, h => congrArg (· + 1) (TalIn.length h.2.2)
theorem TalIn.keys {H : Hp} : ∀ {kvs : List (Key × V)} {tl : Tl}, TalIn H kvs tl → kvs.map (·.1) = (tl.map (·.1)).map Sum.inl
  | [], [], _ => rfl
  | [], _ :: _, h => h.elim
  | _ :: _, [], h => h.elim
  | _ :: _, _ :: _, h => by rw [List.map_cons, List.map_cons, List.map_cons, h.1, TalIn.keys h.2.2]
theorem TalIn.get {H : Hp} : ∀ {kvs : List (Key × V)} {tl : Tl} {i : Nat} {k : Key} {v : V}, TalIn H kvs tl → kvs[i]? = some (k, v) → ∃ (x : Int × Nat × Nat) (a : Addr), tl[i]? = some x ∧ k = .inl x.1 ∧ v = .ref a ∧ H a = some (.tup [.int (x.2.1 : Int), .int (x.2.2 : Int)])
  | [], _, i, _, _, _, e => by simp at e
  | _ :: _, [], _, _, _, h, _ => h.elim
  | kv :: r, x :: l, 0, k, v, h, e => by
    have e : kv = (k, v) := by simpa using e
    subst e
    obtain ⟨e1, ⟨a, e2, e3⟩, _⟩ := h
    exact ⟨x, a, rfl, e1, e2, e3⟩
  | kv :: r, x :: l, i + 1, k, v, h, e => by
    obtain ⟨y, a, h1, h2⟩ := TalIn.get (i := i) (k := k) (v := v) h.2.2 (by simpa using e)
    exact ⟨y, a, by simpa using h1, h2⟩
theorem TalIn.hasnt {H : Hp} (n : Int) : ∀ {kvs : List (Key × V)} {tl : Tl}, TalIn H kvs tl → valV kvs (.inl n) = none → n ∉ tl.map (·.1)
  | [], [], _, _ => fun z => nomatch z
  | [], _ :: _, h, _ => h.elim
  | _ :: _, [], h, _ => h.elim
  | kv :: r, x :: l, h, e => by
    by_cases z : kv.1 = .inl n
    · rw [valV_pos z] at e; cases e
    · rw [valV_neg z] at e
      have := TalIn.hasnt n h.2.2 e
      rw [List.map_cons]
      exact fun w => (List.mem_cons.mp w).elim (fun w => z (by rw [h.1, w])) this
theorem TalIn.has {H : Hp} (n : Int) : ∀ {kvs : List (Key × V)} {tl : Tl} {v : V}, (tl.map (·.1)).Nodup → TalIn H kvs tl → valV kvs (.inl n) = some v → ∃ (c l : Nat) (a : Addr), v = .ref a ∧ H a = some (.tup [.int (c : Int), .int (l : Int)]) ∧ (n, c, l) ∈ tl ∧ ∀ x ∈ tl, x.1 = n → x = (n, c, l)
  | [], [], _, _, _, e => nomatch e
  | [], _ :: _, _, _, h, _ => h.elim
  | _ :: _, [], _, _, h, _ => h.elim
  | kv :: r, x :: l, v, nd, h, e => by
    obtain ⟨e1, ⟨a, e2, e3⟩, hr⟩ := h
    rw [List.map_cons, List.nodup_cons] at nd
    by_cases z : kv.1 = .inl n
    · rw [valV_pos z] at e
      rw [e1] at z
      injection z with z
      subst z
      refine ⟨x.2.1, x.2.2, a, (Option.some.inj e).symm.trans e2, e3, List.mem_cons_self .., fun y hy ey => ?_⟩
      rcases List.mem_cons.mp hy with w | w
      · exact w
      · exact absurd (List.mem_map.mpr ⟨y, w, ey⟩) nd.1
    · rw [valV_neg z] at e
      obtain ⟨c, l0, a0, q1, q2, q3, q4⟩ := TalIn.has n nd.2 hr e
      refine ⟨c, l0, a0, q1, q2, List.mem_cons_of_mem _ q3, fun y hy ey => ?_⟩
      rcases List.mem_cons.mp hy with w | w
      · exact absurd (show kv.1 = .inl n by rw [e1, ← w, ey]) z
      · exact q4 y w ey
theorem TalIn.put {H H' : Hp} {n : Int} {L c : Nat} {a : Addr} (t : Tu H H') (ha : H' a = some (.tup [.int (c : Int), .int (L : Int)])) : ∀ {kvs : List (Key × V)} {tl : Tl}, TalIn H kvs tl → (∀ x ∈ tl, x.1 = n → x.2.1 + 1 = c) → (n ∉ tl.map (·.1) → c = 1) → TalIn H' (putK kvs (.inl n) (.ref a)) (tput tl n L) := by
  intro kvs tl h h1 h2
  have hk := h.keys
  have key : n ∈ tl.map (·.1) ↔ (kvs.any fun kv => decide (kv.1 = (Sum.inl n : Key))) = true := by
    rw [List.any_eq_true]
    constructor
    · intro z
      have : (Sum.inl n : Key) ∈ kvs.map (·.1) := by rw [hk]; exact List.mem_map.mpr ⟨n, z, rfl⟩
      obtain ⟨kv, q, e⟩ := List.mem_map.mp this
      exact ⟨kv, q, decide_eq_true e⟩
    · rintro ⟨kv, q, e⟩
      have : (Sum.inl n : Key) ∈ (tl.map (·.1)).map Sum.inl := by rw [← hk]; exact List.mem_map.mpr ⟨kv, q, of_decide_eq_true e⟩
      obtain ⟨y, hy, e⟩ := List.mem_map.mp this
      cases e; exact hy
  unfold putK tput
  by_cases z : n ∈ tl.map (·.1)
  · rw [if_pos z, if_pos (key.mp z)]
    clear key hk h2 z
    induction kvs generalizing tl with
    | nil => cases tl with | nil => exact trivial | cons _ _ => exact h.elim
    | cons kv r ih =>
      cases tl with
      | nil => exact h.elim
      | cons x l =>
        obtain ⟨e1, ⟨b, e2, e3⟩, hr⟩ := h
        rw [List.map_cons, List.map_cons]
        refine ⟨?_, ?_, ih hr fun y hy => h1 y (List.mem_cons_of_mem _ hy)⟩
        · by_cases w : x.1 = n
          · rw [if_pos w, if_pos (by rw [e1, w])]; exact e1
          · rw [if_neg w, if_neg fun q => w (by rw [e1] at q; exact Sum.inl.inj q)]; exact e1
        · by_cases w : x.1 = n
          · rw [if_pos w, if_pos (by rw [e1, w])]
            exact ⟨a, rfl, by show H' a = some (.tup [.int ((x.2.1 + 1 : Nat) : Int), .int (L : Int)]); rw [h1 x (List.mem_cons_self ..) w]; exact ha⟩
          · rw [if_neg w, if_neg fun q => w (by rw [e1] at q; exact Sum.inl.inj q)]; exact ⟨b, e2, t _ _ e3⟩
  · rw [if_neg z, if_neg fun q => z (key.mpr q)]
    have := h2 z
    subst this
    clear key hk h1 h2 z
    induction kvs generalizing tl with
    | nil => cases tl with | nil => exact ⟨rfl, ⟨a, rfl, ha⟩, trivial⟩ | cons _ _ => exact h.elim
    | cons kv r ih =>
      cases tl with
      | nil => exact h.elim
      | cons x l =>
        obtain ⟨e1, ⟨b, e2, e3⟩, hr⟩ := h
        exact ⟨e1, ⟨b, e2, t _ _ e3⟩, ih hr⟩
/-- a term's profile at p, its tally tl at x -/
def ProIn (H : Hp) (p : Addr) (t : Tm) (x : Addr) (tl : Tl) : Prop := H p = some (.tup [.int (t.sz : Int), .int (t.dep : Int), .ref x]) ∧ ∃ kvs, H x = some (.dK kvs) ∧ TalIn H kvs tl ∧ Tal t.dep tl (olv 1 t)
theorem ProIn.td {H H' : Hp} {p x : Addr} {t : Tm} {tl : Tl} (h : ProIn H p t x tl) (s : Tu H H') (d : ∀ kvs, H x = some (.dK kvs) → H' x = some (.dK kvs)) : ProIn H' p t x tl := by
  obtain ⟨h1, kvs, h2, h3, h4⟩ := h
  exact ⟨s _ _ h1, kvs, d _ h2, h3.tu s, h4⟩
theorem ProIn.same {H H' : Hp} {p x : Addr} {t : Tm} {tl : Tl} (h : ProIn H p t x tl) (s : Same H H') : ProIn H' p t x tl := h.td (tu_same s) fun _ q => s _ _ q
/-! for k, v in d.items() -/
theorem for_items {d : Addr} {o : Obj} {kvs : List (Key × V)} {g : TG} {tb : TS} {D : Ends} {σ : L2.St} {H : Hp} (Pv : Nat → L2.St → Hp → Prop) (h0 : Pv 0 σ H) (hl : ∀ i σ H, i ≤ kvs.length → Pv i σ H → H d = some (.frz o (.dK kvs)))
    (hs : ∀ i k v σ H T, kvs[i]? = some (k, v) → Pv i σ H → H T = none → g (.ref T) σ (upd H T (.tup [kV k, v])) fun σ2 H2 => tb { D with nx := Pv (i + 1), ct := Pv (i + 1), bk := D.nx } σ2 H2) (hd : ∀ σ H, Pv kvs.length σ H → D.nx σ H) :
    ∃ W : Nat → Nat → L2.St → Hp → Prop, (∃ m, W 0 m σ H) ∧ ∀ i m σ H, W i m σ H →
      ((Iti d o kvs).stop i H ∧ D.nx σ H) ∨ ((Iti d o kvs).go i H ∧ ∃ N : L2.St → Hp → Prop, (∀ σ' H', N σ' H' → ∃ m', m' < m ∧ W (i + 1) m' σ' H') ∧ ∀ x H', (Iti d o kvs).yld i H x H' → g x σ H' fun σ2 H2 => tb { D with nx := N, ct := N, bk := D.nx } σ2 H2) := by
  refine ⟨fun i m σ H => m = kvs.length - i ∧ i ≤ kvs.length ∧ Pv i σ H, ⟨kvs.length, by simp, Nat.zero_le _, h0⟩, ?_⟩
  rintro i m σ H ⟨rfl, hi, p⟩
  have q := hl i σ H hi p
  by_cases hlt : i < kvs.length
  · refine .inr ⟨⟨q, hlt⟩, Pv (i + 1), fun σ' H' p' => ⟨kvs.length - (i + 1), by omega, rfl, hlt, p'⟩, fun x H' y => ?_⟩
    obtain ⟨T, k, v, h1, h2, h3, h4⟩ := y
    subst h2 h4
    exact hs i k v σ H T h1 p h3
  · have e : i = kvs.length := by omega
    subst e
    exact .inl ⟨⟨q, Nat.le_refl _⟩, hd σ H p⟩
/-- H with the object u at d locked -/
structure Lk (H HL : Hp) (d : Addr) (od : Obj) (u : HO) : Prop where
  at_ : HL d = some (.frz od u)
  ot : ∀ c o, H c = some o → c ≠ d → HL c = some o
  no : ∀ c, H c = none → HL c = none
  was : H d = some u
theorem Lk.of {H : Hp} {d : Addr} {od : Obj} {u : HO} (h : H d = some u) : Lk H (upd H d (.frz od u)) d od u :=
  ⟨upd_same, fun c o e ne => by rw [upd_ne ne]; exact e, fun c e => by rw [upd_ne fun z => by rw [z, h] at e; cases e]; exact e, h⟩
theorem Lk.tu {H HL : Hp} {d : Addr} {od : Obj} {kvs : List (Key × V)} (k : Lk H HL d od (.dK kvs)) : Tu H HL := fun c xs e => k.ot c _ e fun z => by rw [z, k.was] at e; cases e
theorem Lk.back {H HL H' : Hp} {d : Addr} {od : Obj} {u : HO} (k : Lk H HL d od u) (s : Same HL H') : Same H (upd H' d u) := fun c o e => by
  by_cases z : c = d
  · subst z; rw [upd_same, ← e, k.was]
  · rw [upd_ne z]; exact s _ _ (k.ot c o e z)
theorem Lk.but {H HL H' : Hp} {d f : Addr} {od : Obj} {u : HO} (k : Lk H HL d od u) (s : But f HL H') : But f H (upd H' d u) := fun c o e ne => by
  by_cases z : c = d
  · subst z; rw [upd_same, ← e, k.was]
  · rw [upd_ne z]; exact s _ _ (k.ot c o e z) ne
/-- a dict whose values are pairs of ints -/
def Fnd (H : Hp) (kvs : List (Key × V)) : Prop := ∀ k v, valV kvs k = some v → ∃ (a : Addr) (c l : Int), v = .ref a ∧ H a = some (.tup [.int c, .int l])
theorem Fnd.nil {H : Hp} : Fnd H [] := fun _ _ e => nomatch e
theorem Fnd.tu {H H' : Hp} {kvs : List (Key × V)} (h : Fnd H kvs) (t : Tu H H') : Fnd H' kvs := fun k v e => by
  obtain ⟨a, c, l, rfl, ha⟩ := h k v e
  exact ⟨a, c, l, rfl, t _ _ ha⟩
theorem Fnd.put {H : Hp} {kvs : List (Key × V)} (h : Fnd H kvs) {k : Key} {a : Addr} {c l : Int} (ha : H a = some (.tup [.int c, .int l])) : Fnd H (putK kvs k (.ref a)) := fun j v e => by
  rw [valV_put] at e
  by_cases hj : j = k
  · rw [if_pos hj] at e
    cases e
    exact ⟨a, c, l, rfl, ha⟩
  · rw [if_neg hj] at e
    exact h j v e
theorem tsum_snoc (w : Int → Nat) (l : Tl) (x : Int × Nat × Nat) : tsum w (l ++ [x]) = tsum w l + x.2.1 * w x.1 := by
  unfold tsum
  rw [List.map_append, List.sum_append]
  exact congrArg _ (Nat.add_zero _)
theorem tmx_snoc (d : Int → Nat) (l : Tl) (x : Int × Nat × Nat) : tmx d (l ++ [x]) = max (tmx d l) (x.2.2 - 1 + d x.1) := by
  rw [tmx_app]
  show max _ (max _ 0) = _
  rw [Nat.max_zero]
theorem max_if (a b : Nat) {i j : Int} (hi : i = (a : Int)) (hj : j = (b : Int)) : (if j > i then j else i) = ((max a b : Nat) : Int) := by
  split <;> omega
end J

/-! ### a walk: given equations, stages, what is known of them -/
namespace J
open PySem L2
/-- a row that begins with the sides of an equation -/
def RowIn (H : Hp) (w : V) (L R : Tm) : Prop := ∃ (e : Addr) (lv rv : V) (rest : List V), w = .ref e ∧ H e = some (.tup (lv :: rv :: rest)) ∧ rest.length ≤ 10 ∧ TmIn H L lv ∧ TmIn H R rv
theorem RowIn.tu {H H' : Hp} {w : V} {L R : Tm} (h : RowIn H w L R) (t : Tu H H') : RowIn H' w L R := by
  obtain ⟨e, lv, rv, rest, rfl, h1, h2, h3, h4⟩ := h
  exact ⟨e, lv, rv, rest, rfl, t _ _ h1, h2, h3.tu t, h4.tu t⟩
def RowsIn (H : Hp) (ws : List V) (es : List (Tm × Tm)) : Prop := ws.length = es.length ∧ ∀ (i : Nat) (w : V) (x : Tm × Tm), ws[i]? = some w → es[i]? = some x → RowIn H w x.1 x.2
theorem RowsIn.tu {H H' : Hp} {ws : List V} {es : List (Tm × Tm)} (h : RowsIn H ws es) (t : Tu H H') : RowsIn H' ws es := ⟨h.1, fun i w x a b => (h.2 i w x a b).tu t⟩
/-- the variables of both sides, ascending -/
def NamesOf (ns : List Int) (L R : Tm) : Prop := ns.Pairwise (· < ·) ∧ ∀ n, n ∈ ns ↔ n ∈ occ L ∨ n ∈ occ R
theorem asc_ext : ∀ {a b : List Int}, a.Pairwise (· < ·) → b.Pairwise (· < ·) → (∀ n, n ∈ a ↔ n ∈ b) → a = b
  | [], [], _, _, _ => rfl
  | [], y :: b, _, _, h => nomatch (h y).mpr (List.mem_cons_self ..)
  | x :: a, [], _, _, h => nomatch (h x).mp (List.mem_cons_self ..)
  | x :: a, y :: b, ha, hb, h => by
    have ha := List.pairwise_cons.mp ha
    have hb := List.pairwise_cons.mp hb
    have e : x = y := by
      rcases List.mem_cons.mp ((h x).mp (List.mem_cons_self ..)) with z | z
      · exact z
      · rcases List.mem_cons.mp ((h y).mpr (List.mem_cons_self ..)) with w | w
        · exact w.symm
        · have := ha.1 y w; have := hb.1 x z; omega
    subst e
    rw [asc_ext ha.2 hb.2 fun n => ?_]
    have := h n
    rw [List.mem_cons, List.mem_cons] at this
    constructor
    · intro m
      rcases this.mp (.inr m) with z | z
      · subst z; exact absurd (ha.1 n m) (Int.lt_irrefl _)
      · exact z
    · intro m
      rcases this.mpr (.inr m) with z | z
      · subst z; exact absurd (hb.1 n m) (Int.lt_irrefl _)
      · exact z
/-- what is known of the equation (L, R), at v -/
def EqAt (Z : List Addr) (H : Hp) (v : V) (L R : Tm) : Prop := ∃ (e p1 p2 nl s1 s2 x1 x2 : Addr) (lv rv : V) (tl1 tl2 : Tl) (ns : List Int), v = .ref e ∧ H e = some (.tup [.ref nl, .ref p1, .ref p2]) ∧ H nl = some (.lst (ns.map V.int)) ∧ NamesOf ns L R ∧
  H p1 = some (.tup [lv, .ref s1]) ∧ H p2 = some (.tup [rv, .ref s2]) ∧ TmIn H L lv ∧ TmIn H R rv ∧ ProIn H s1 L x1 tl1 ∧ ProIn H s2 R x2 tl2 ∧ nl ∉ Z
theorem EqAt.but {Z : List Addr} {H H' : Hp} {v : V} {L R : Tm} {d : Addr} {kvs : List (List Key × V)} (h : EqAt Z H v L R) (hd : H d = some (.dT kvs)) (b : But d H H') : EqAt Z H' v L R := by
  obtain ⟨e, p1, p2, nl, s1, s2, x1, x2, lv, rv, tl1, tl2, ns, rfl, h1, h2, h3, h4, h5, h6, h7, h8, h9, h10⟩ := h
  have t : Tu H H' := fun a xs q => b _ _ q fun z => by rw [z, hd] at q; cases q
  have k : ∀ x kv, H x = some (.dK kv) → H' x = some (.dK kv) := fun x kv q => b _ _ q fun z => by rw [z, hd] at q; cases q
  exact ⟨e, p1, p2, nl, s1, s2, x1, x2, lv, rv, tl1, tl2, ns, rfl, t _ _ h1, b _ _ h2 (fun z => by rw [z, hd] at h2; cases h2), h3, t _ _ h4, t _ _ h5, h6.tu t, h7.tu t, h8.td t (k _), h9.td t (k _), h10⟩
theorem EqAt.same {Z : List Addr} {H H' : Hp} {v : V} {L R : Tm} (h : EqAt Z H v L R) (s : Same H H') : EqAt Z H' v L R := by
  obtain ⟨e, p1, p2, nl, s1, s2, x1, x2, lv, rv, tl1, tl2, ns, rfl, h1, h2, h3, h4, h5, h6, h7, h8, h9, h10⟩ := h
  have t := tu_same s
  exact ⟨e, p1, p2, nl, s1, s2, x1, x2, lv, rv, tl1, tl2, ns, rfl, t _ _ h1, s _ _ h2, h3, t _ _ h4, t _ _ h5, h6.tu t, h7.tu t, h8.td t (fun _ q => s _ _ q), h9.td t (fun _ q => s _ _ q), h10⟩
/-- the equation that a source names -/
def srcEq (gs ss : List (Tm × Tm)) (b : Nat) (kd : Str) (k : Int) : Option (Tm × Tm) := if 0 ≤ k then (if kd = ("given" : Str) then gs[k.toNat]? else if k < (b : Int) then ss[k.toNat]? else none) else none
/-- the equation that a key names -/
def keyEq (gs ss : List (Tm × Tm)) (kd : Str) (k : Int) : Option (Tm × Tm) := if 0 ≤ k then (if kd = ("given" : Str) then gs[k.toNat]? else ss[k.toNat]?) else none
theorem src_key {gs ss : List (Tm × Tm)} {b : Nat} {kd : Str} {k : Int} {x : Tm × Tm} (h : srcEq gs ss b kd k = some x) : keyEq gs ss kd k = some x := by
  unfold srcEq at h
  unfold keyEq
  by_cases h0 : 0 ≤ k
  · rw [if_pos h0] at h ⊢
    by_cases hk : kd = ("given" : Str)
    · rw [if_pos hk] at h ⊢; exact h
    · rw [if_neg hk] at h ⊢
      by_cases hb : k < (b : Int)
      · rw [if_pos hb] at h; exact h
      · rw [if_neg hb] at h; cases h
  · rw [if_neg h0] at h; cases h
/-- the walk at p: its lists, its dict at d of at most M entries -/
structure WkAt (Z : List Addr) (C : Addr) (H : Hp) (p g sg d : Addr) (gs ss : List (Tm × Tm)) (M : Nat) : Prop where
  ob : ∃ dx, H p = some (.ins C dx [("_given", .ref g), ("_stages", .ref sg), ("_known", .ref d)])
  gv : ∃ xs, H g = some (.lst xs) ∧ RowsIn H xs gs
  sv : ∃ xs, H sg = some (.lst xs) ∧ RowsIn H xs ss
  kn : ∃ kvs, H d = some (.dT kvs) ∧ kvs.length ≤ M ∧ ∀ key v, valV kvs key = some v → ∃ (kd : Str) (k : Int) (x : Tm × Tm), key = [.inr kd, .inl k] ∧ keyEq gs ss kd k = some x ∧ EqAt Z H v x.1 x.2
  zs : ∀ z ∈ Z, ∃ o, H z = some o
theorem WkAt.same {Z : List Addr} {C : Addr} {H H' : Hp} {p g sg d : Addr} {gs ss : List (Tm × Tm)} {M : Nat} (h : WkAt Z C H p g sg d gs ss M) (s : Same H H') : WkAt Z C H' p g sg d gs ss M := by
  obtain ⟨⟨dx, h1⟩, ⟨xs, h2, h3⟩, ⟨ys, h4, h5⟩, ⟨kvs, h6, h7, h8⟩, h9⟩ := h
  refine ⟨⟨dx, s _ _ h1⟩, ⟨xs, s _ _ h2, h3.tu (tu_same s)⟩, ⟨ys, s _ _ h4, h5.tu (tu_same s)⟩, ⟨kvs, s _ _ h6, h7, fun key v e => ?_⟩, fun z hz => by obtain ⟨o, q⟩ := h9 z hz; exact ⟨o, s _ _ q⟩⟩
  obtain ⟨kd, k, x, e1, e2, e3⟩ := h8 key v e
  exact ⟨kd, k, x, e1, e2, e3.same s⟩
theorem WkAt.dT {Z : List Addr} {C : Addr} {H : Hp} {p g sg d : Addr} {gs ss : List (Tm × Tm)} {M : Nat} (h : WkAt Z C H p g sg d gs ss M) : ∃ kvs, H d = some (.dT kvs) := let ⟨k, e, _⟩ := h.kn; ⟨k, e⟩
theorem EqAt.lst {Z : List Addr} {H H' : Hp} {v : V} {L R : Tm} {r : Addr} {rs : List V} (h : EqAt Z H v L R) (hr : H r = some (.lst rs)) (m : r ∈ Z) (b : But r H H') : EqAt Z H' v L R := by
  obtain ⟨e, p1, p2, nl, s1, s2, x1, x2, lv, rv, tl1, tl2, ns, rfl, h1, h2, h3, h4, h5, h6, h7, h8, h9, h10⟩ := h
  have t : Tu H H' := but_tu b (lst_not_tup hr)
  have k : ∀ x kv, H x = some (.dK kv) → H' x = some (.dK kv) := fun x kv q => b _ _ q fun z => by rw [z, hr] at q; cases q
  exact ⟨e, p1, p2, nl, s1, s2, x1, x2, lv, rv, tl1, tl2, ns, rfl, t _ _ h1, b _ _ h2 (fun z => h10 (by rw [z]; exact m)), h3, t _ _ h4, t _ _ h5, h6.tu t, h7.tu t, h8.td t (k _), h9.td t (k _), h10⟩
/-- a list of ours grows -/
theorem WkAt.lst {Z : List Addr} {C : Addr} {H H' : Hp} {p g sg d r : Addr} {gs ss : List (Tm × Tm)} {M : Nat} {rs : List V} (h : WkAt Z C H p g sg d gs ss M) (hr : H r = some (.lst rs)) (m : r ∈ Z) (b : But r H H') (a : ∃ o, H' r = some o) (ng : g ≠ r) (ns : sg ≠ r) : WkAt Z C H' p g sg d gs ss M := by
  obtain ⟨⟨dx, h1⟩, ⟨xs, h2, h3⟩, ⟨ys, h4, h5⟩, ⟨kvs, h6, h7, h8⟩, h9⟩ := h
  have t : Tu H H' := but_tu b (lst_not_tup hr)
  refine ⟨⟨dx, b _ _ h1 fun z => by rw [z, hr] at h1; cases h1⟩, ⟨xs, b _ _ h2 ng, h3.tu t⟩, ⟨ys, b _ _ h4 ns, h5.tu t⟩, ⟨kvs, b _ _ h6 (fun z => by rw [z, hr] at h6; cases h6), h7, fun key v e => ?_⟩, fun z hz => ?_⟩
  · obtain ⟨kd, k, x, e1, e2, e3⟩ := h8 key v e
    exact ⟨kd, k, x, e1, e2, e3.lst hr m b⟩
  · by_cases q : z = r
    · rw [q]; exact a
    · obtain ⟨o, w⟩ := h9 z hz
      exact ⟨o, b _ _ w q⟩
/-- a new address is kept clear of -/
theorem WkAt.add {Z : List Addr} {C : Addr} {H H' : Hp} {p g sg d r : Addr} {gs ss : List (Tm × Tm)} {M : Nat} (h : WkAt Z C H p g sg d gs ss M) (s : Same H H') (n : H r = none) (a : ∃ o, H' r = some o) : WkAt (r :: Z) C H' p g sg d gs ss M := by
  obtain ⟨h1, h2, h3, ⟨kvs, h6, h7, h8⟩, h9⟩ := h
  have W' := WkAt.same (Z := Z) ⟨h1, h2, h3, ⟨kvs, h6, h7, h8⟩, h9⟩ s
  refine ⟨W'.ob, W'.gv, W'.sv, ⟨kvs, s _ _ h6, h7, fun key v ek => ?_⟩, fun z hz => ?_⟩
  · obtain ⟨kd, k, x, e1, e2, e3⟩ := h8 key v ek
    obtain ⟨e, p1, p2, nl, s1, s2, x1, x2, lv, rv, tl1, tl2, ns, rfl, q1, q2, q3, q4, q5, q6, q7, q8, q9, q10⟩ := e3
    have ne : nl ≠ r := fun z => by rw [z, n] at q2; cases q2
    have := EqAt.same (Z := r :: Z) ⟨e, p1, p2, nl, s1, s2, x1, x2, lv, rv, tl1, tl2, ns, rfl, q1, q2, q3, q4, q5, q6, q7, q8, q9, fun m => (List.mem_cons.mp m).elim ne q10⟩ s
    exact ⟨kd, k, x, e1, e2, this⟩
  · rcases List.mem_cons.mp hz with q | q
    · rw [q]; exact a
    · exact W'.zs z q
theorem WkAt.drop {Z : List Addr} {C : Addr} {H : Hp} {p g sg d r : Addr} {gs ss : List (Tm × Tm)} {M : Nat} (h : WkAt (r :: Z) C H p g sg d gs ss M) : WkAt Z C H p g sg d gs ss M := by
  obtain ⟨h1, h2, h3, ⟨kvs, h6, h7, h8⟩, h9⟩ := h
  refine ⟨h1, h2, h3, ⟨kvs, h6, h7, fun key v ek => ?_⟩, fun z hz => h9 z (List.mem_cons_of_mem _ hz)⟩
  obtain ⟨kd, k, x, e1, e2, e, p1, p2, nl, s1, s2, x1, x2, lv, rv, tl1, tl2, ns, rfl, q1, q2, q3, q4, q5, q6, q7, q8, q9, q10⟩ := h8 key v ek
  exact ⟨kd, k, x, e1, e2, e, p1, p2, nl, s1, s2, x1, x2, lv, rv, tl1, tl2, ns, rfl, q1, q2, q3, q4, q5, q6, q7, q8, q9, fun m => q10 (List.mem_cons_of_mem _ m)⟩
theorem WkAt.more {Z : List Addr} {C : Addr} {H : Hp} {p g sg d : Addr} {gs ss : List (Tm × Tm)} {M N : Nat} (h : WkAt Z C H p g sg d gs ss M) (le : M ≤ N) : WkAt Z C H p g sg d gs ss N := by
  obtain ⟨h1, h2, h3, ⟨kvs, h6, h7, h8⟩, h9⟩ := h
  exact ⟨h1, h2, h3, ⟨kvs, h6, Nat.le_trans h7 le, h8⟩, h9⟩
theorem but_dT_tu {H H' : Hp} {d : Addr} {kvs : List (List Key × V)} (hd : H d = some (.dT kvs)) (b : But d H H') : Tu H H' := fun a xs q => b _ _ q fun z => by rw [z, hd] at q; cases q
theorem putF_ne {f g : Str} {v y : V} {r : List (Str × V)} (h : ¬ g = f) : putF f y ((g, v) :: r) = (g, v) :: putF f y r := if_neg h
theorem wk_flds2 (a b : V) : putF ("_stages" : Str) b [(("_given" : Str), a)] = [(("_given" : Str), a), (("_stages" : Str), b)] := by rw [putF_ne (by decide +kernel)]; rfl
theorem wk_flds3 (a b c : V) : putF ("_known" : Str) c [(("_given" : Str), a), (("_stages" : Str), b)] = [(("_given" : Str), a), (("_stages" : Str), b), (("_known" : Str), c)] := by rw [putF_ne (by decide +kernel), putF_ne (by decide +kernel)]; rfl
theorem wk_given (a b c : V) : ([(("_given" : Str), a), (("_stages" : Str), b), (("_known" : Str), c)] : List (Str × V)).lookup ("_given" : Str) = some a := by
  rw [List.lookup_cons, show ((("_given" : Str) == ("_given" : Str)) = true) by decide +kernel]
theorem wk_stages (a b c : V) : ([(("_given" : Str), a), (("_stages" : Str), b), (("_known" : Str), c)] : List (Str × V)).lookup ("_stages" : Str) = some b := by
  rw [List.lookup_cons, show ((("_stages" : Str) == ("_given" : Str)) = false) by decide +kernel]
  show List.lookup _ _ = _
  rw [List.lookup_cons, show ((("_stages" : Str) == ("_stages" : Str)) = true) by decide +kernel]
theorem wk_known (a b c : V) : ([(("_given" : Str), a), (("_stages" : Str), b), (("_known" : Str), c)] : List (Str × V)).lookup ("_known" : Str) = some c := by
  rw [List.lookup_cons, show ((("_known" : Str) == ("_given" : Str)) = false) by decide +kernel]
  show List.lookup _ _ = _
  rw [List.lookup_cons, show ((("_known" : Str) == ("_stages" : Str)) = false) by decide +kernel]
  show List.lookup _ _ = _
  rw [List.lookup_cons, show ((("_known" : Str) == ("_known" : Str)) = true) by decide +kernel]
theorem wk_no {m : Str} (a b c : V) (h1 : (m == ("_given" : Str)) = false) (h2 : (m == ("_stages" : Str)) = false) (h3 : (m == ("_known" : Str)) = false) : ([(("_given" : Str), a), (("_stages" : Str), b), (("_known" : Str), c)] : List (Str × V)).lookup m = none := by
  rw [List.lookup_cons, h1]
  show List.lookup _ _ = _
  rw [List.lookup_cons, h2]
  show List.lookup _ _ = _
  rw [List.lookup_cons, h3]; rfl
/-- t[:2] -/
theorem first2 {K : PySem.W.Frag} {H : Hp} {e : Addr} {lv rv : V} {rest : List V} {Q : VK} (h : H e = some (.tup (lv :: rv :: rest))) (k : ∀ y H', Same H H' → H' y = some (.tup [lv, rv]) → Q (.ref y) H') : rSlA K (.ref e) none (some 2) H Q := by
  have e2 : HT.sIx (lv :: rv :: rest).length (lv :: rv :: rest).length (some 2) = 2 := by
    show min 2 (rest.length + 1 + 1) = 2
    omega
  refine ⟨e, _, rfl, SqT.of h, fun hw => ?_, fun hw p hp => ?_⟩
  · have hl : 2 = rest.length + 1 + 1 := by rw [e2] at hw; exact hw.2
    have : rest = [] := List.length_eq_zero_iff.mp (by omega)
    subst this
    exact k e H (Same.refl _) h
  · refine k p _ (al_same hp rfl) ?_
    rw [upd_same]
    unfold cutV
    rw [e2]
    rfl
theorem lt_list {a : List Int} (h : a.Pairwise (· ≤ ·)) (n : a.Nodup) : a.Pairwise (· < ·) := by
  induction a with
  | nil => exact List.Pairwise.nil
  | cons x a ih =>
    have h := List.pairwise_cons.mp h
    have n := List.nodup_cons.mp n
    refine List.pairwise_cons.mpr ⟨fun y hy => ?_, ih h.2 n.2⟩
    have := h.1 y hy
    have : x ≠ y := fun z => n.1 (by rw [z]; exact hy)
    omega
theorem if_congr_of {α : Type} {p : Prop} [Decidable p] {a b c : α} (h : a = b) : (if p then a else c) = (if p then b else c) := by rw [h]
open Classical in
/-- what a step makes of a term -/
noncomputable def stepRes (gs ss : List (Tm × Tm)) (b : Nat) (x : Stq) (t : Tm) : Option Tm :=
  match srcEq gs ss b x.kd x.k with
  | none => none
  | some e => if ∀ n, n ∈ x.tb.map (·.1) ↔ n ∈ occ e.1 ∨ n ∈ occ e.2 then
      (match at? x.q t with
      | none => none
      | some c => if sub (look x.tb) (if x.fwd then e.1 else e.2) = c then some (rep (sub (look x.tb) (if x.fwd then e.2 else e.1)) x.q t) else none)
    else none
section
variable {gs ss : List (Tm × Tm)} {b : Nat} {x : Stq} {t L R c : Tm}
theorem res_src (h : srcEq gs ss b x.kd x.k = none) : stepRes gs ss b x t = none := by unfold stepRes; rw [h]
theorem res_names (h : srcEq gs ss b x.kd x.k = some (L, R)) (n : ¬ ∀ n, n ∈ x.tb.map (·.1) ↔ n ∈ occ L ∨ n ∈ occ R) : stepRes gs ss b x t = none := by
  unfold stepRes; rw [h]
  exact if_neg n
open Classical in
theorem res_at (h : srcEq gs ss b x.kd x.k = some (L, R)) (a : at? x.q t = none) : stepRes gs ss b x t = none := by
  unfold stepRes; rw [h, a]
  exact ite_self _
open Classical in
theorem res_ne (h : srcEq gs ss b x.kd x.k = some (L, R)) (a : at? x.q t = some c) (n : sub (look x.tb) (if x.fwd then L else R) ≠ c) : stepRes gs ss b x t = none := by
  unfold stepRes; rw [h, a]
  refine (if_congr_of ?_).trans (ite_self _)
  exact if_neg n
theorem res_eq (h : srcEq gs ss b x.kd x.k = some (L, R)) (m : ∀ n, n ∈ x.tb.map (·.1) ↔ n ∈ occ L ∨ n ∈ occ R) (a : at? x.q t = some c) (n : sub (look x.tb) (if x.fwd then L else R) = c) : stepRes gs ss b x t = some (rep (sub (look x.tb) (if x.fwd then R else L)) x.q t) := by
  unfold stepRes; rw [h, a]
  exact (if_pos m).trans (if_pos n)
end
/-- what is asked of a step ahead of a look at it -/
structure StepOk (fs : List Str) (gs ss : List (Tm × Tm)) (b : Nat) (x : Stq) (t : Tm) : Prop where
  nm : Names fs
  wt : t.wf fs 30
  zt : t.sz ≤ 4000
  dt : t.dep ≤ 58
  eq : ∀ e, srcEq gs ss b x.kd x.k = some e → e.1.wf fs 30 ∧ e.2.wf fs 30 ∧ e.1.sz ≤ 4000 ∧ e.2.sz ≤ 4000 ∧ e.1.dep ≤ 58 ∧ e.2.dep ≤ 58 ∧
    ((∀ n, n ∈ x.tb.map (·.1) ↔ n ∈ occ e.1 ∨ n ∈ occ e.2) → ((sub (look x.tb) e.1).dep ≤ 58 ∧ (sub (look x.tb) e.2).dep ≤ 58))
  nd : (x.tb.map (·.1)).Nodup
  ln : x.tb.length ≤ 30
  tb : ∀ y ∈ x.tb, y.2.wf fs 30 ∧ y.2.sz ≤ 4000 ∧ y.2.dep ≤ 58
  ql : x.q.length ≤ 100000
  res : ∀ t', stepRes gs ss b x t = some t' → t'.sz ≤ 4000 ∧ t'.dep ≤ 58
theorem TbIn.keys {H : Hp} : ∀ {kvs : List (Key × V)} {tb : List (Int × Tm)}, TbIn H kvs tb → kvs.map (·.1) = (tb.map (·.1)).map Sum.inl
  | [], [], _ => rfl
  | [], _ :: _, h => h.elim
  | _ :: _, [], h => h.elim
  | _ :: _, _ :: _, h => by rw [List.map_cons, List.map_cons, List.map_cons, h.1, TbIn.keys h.2.2]
theorem intsD_eqv : ∀ a b : List Int, PyData.eqvAll (a.map PyData.int) (b.map PyData.int) = decide (a = b)
  | [], [] => rfl
  | [], _ :: _ => rfl
  | _ :: _, [] => rfl
  | x :: a, y :: b => by
    show ((x == y) && PyData.eqvAll (a.map PyData.int) (b.map PyData.int)) = _
    rw [intsD_eqv a b]
    by_cases h : x = y
    · subst h
      by_cases h2 : a = b
      · subst h2; simp
      · rw [decide_eq_false h2, Bool.and_false, decide_eq_false fun z => h2 (List.cons.inj z).2]
    · rw [show (x == y) = false from beq_false_of_ne h, Bool.false_and, decide_eq_false fun z => h (List.cons.inj z).1]
theorem intsD_dp {K : PySem.W.Frag} {H : Hp} : ∀ l : List Int, DpAll K H (l.map V.int) (l.map PyData.int)
  | [] => .nil
  | n :: l => .cons (.int n) (intsD_dp l)
theorem intsD_lay : ∀ l : List Int, PyData.canLayAll0 (l.map PyData.int) = true ∧ PyData.depthAll (l.map PyData.int) = 0
  | [] => ⟨rfl, rfl⟩
  | n :: l => by
    obtain ⟨a, b⟩ := intsD_lay l
    exact ⟨by show (true && PyData.canLayAll0 (l.map PyData.int)) = true; rw [a]; rfl, by show max 0 (PyData.depthAll (l.map PyData.int)) = 0; rw [b]; rfl⟩
theorem intsD_shaped (l : List Int) : SeqAt.shaped (.list (l.map PyData.int)) = true := by
  obtain ⟨a, b⟩ := intsD_lay l
  unfold SeqAt.shaped
  have h1 : (PyData.list (l.map PyData.int)).canLay0 = true := a
  have h2 : (PyData.list (l.map PyData.int)).depth = 1 := congrArg (· + 1) b
  rw [h1, h2]; rfl
/-- the shapes of the values of tb in the dict D, the tally of each at an address that H0 did not know -/
def ShsIn (H0 : Hp) (D : Addr) (H : Hp) : List (Key × V) → List (Int × Tm) → Prop
  | [], [] => True
  | kv :: r, x :: l => kv.1 = .inl x.1 ∧ (∃ sb u tl, kv.2 = .ref sb ∧ ProIn H sb x.2 u tl ∧ H0 u = none ∧ u ≠ D) ∧ ShsIn H0 D H r l
  | _, _ => False
theorem ShsIn.length {H0 H : Hp} {D : Addr} : ∀ {kvs : List (Key × V)} {l : List (Int × Tm)}, ShsIn H0 D H kvs l → kvs.length = l.length
  | [], [], _ => rfl
  | [], _ :: _, h => h.elim
  | _ :: _, [], h => h.elim
  | _ :: _, _ :: _, h => congrArg (· + 1) (ShsIn.length h.2.2)
theorem ShsIn.step {H0 H H' : Hp} {D : Addr} (t : Tu H H') (d : ∀ u kv, u ≠ D → H u = some (.dK kv) → H' u = some (.dK kv)) : ∀ {kvs : List (Key × V)} {l : List (Int × Tm)}, ShsIn H0 D H kvs l → ShsIn H0 D H' kvs l
  | [], [], _ => trivial
  | [], _ :: _, h => h.elim
  | _ :: _, [], h => h.elim
  | _ :: _, _ :: _, ⟨e, ⟨sb, u, tl, e2, h2, h3, h4⟩, hr⟩ => ⟨e, ⟨sb, u, tl, e2, h2.td t fun kv' q => d u kv' h4 q, h3, h4⟩, ShsIn.step t d hr⟩
theorem ShsIn.snoc {H0 H : Hp} {D sb u : Addr} {n : Int} {t : Tm} {tl : Tl} (hp : ProIn H sb t u tl) (h0 : H0 u = none) (ne : u ≠ D) : ∀ {kvs : List (Key × V)} {l : List (Int × Tm)}, ShsIn H0 D H kvs l → ShsIn H0 D H (kvs ++ [(.inl n, .ref sb)]) (l ++ [(n, t)])
  | [], [], _ => ⟨rfl, ⟨sb, u, tl, rfl, hp, h0, ne⟩, trivial⟩
  | [], _ :: _, h => h.elim
  | _ :: _, [], h => h.elim
  | _ :: _, _ :: _, h => ⟨h.1, h.2.1, ShsIn.snoc hp h0 ne h.2.2⟩
theorem ShsIn.val {H0 H : Hp} {D : Addr} (n : Int) : ∀ {kvs : List (Key × V)} {l : List (Int × Tm)}, ShsIn H0 D H kvs l → match look l n with
    | none => valV kvs (.inl n) = none
    | some t => ∃ sb u tl, valV kvs (.inl n) = some (.ref sb) ∧ ProIn H sb t u tl ∧ H0 u = none ∧ u ≠ D
  | [], [], _ => rfl
  | [], _ :: _, h => h.elim
  | _ :: _, [], h => h.elim
  | kv :: r, x :: l, h => by
    by_cases e : x.1 = n
    · rw [show look (x :: l) n = some x.2 from if_pos e]
      obtain ⟨sb, u, tl, e2, h2⟩ := h.2.1
      exact ⟨sb, u, tl, by rw [valV_pos (by rw [h.1, e]), e2], h2⟩
    · rw [show look (x :: l) n = look l n from if_neg e, valV_neg (by rw [h.1]; exact fun z => e (Sum.inl.inj z))]
      exact ShsIn.val n h.2.2
/-! following steps -/
noncomputable def fol (gs ss : List (Tm × Tm)) (b : Nat) : List Stq → Tm → Option (List Tm)
  | [], t => some [t]
  | x :: xs, t => match stepRes gs ss b x t with
    | none => none
    | some t' => (fol gs ss b xs t').map (t :: ·)
/-- the first step that does not apply -/
noncomputable def bad (gs ss : List (Tm × Tm)) (b : Nat) : List Stq → Tm → Nat
  | [], _ => 0
  | x :: xs, t => match stepRes gs ss b x t with
    | none => 0
    | some t' => bad gs ss b xs t' + 1
/-- what is asked of the steps ahead of a look at them -/
def FolOk (fs : List Str) (gs ss : List (Tm × Tm)) (b : Nat) : List Stq → Tm → Prop
  | [], t => t.sz ≤ 4000 ∧ t.dep ≤ 58
  | x :: xs, t => StepOk fs gs ss b x t ∧ ∀ t', stepRes gs ss b x t = some t' → FolOk fs gs ss b xs t'
theorem FolOk.sz {fs : List Str} {gs ss : List (Tm × Tm)} {b : Nat} : ∀ {xs : List Stq} {t : Tm}, FolOk fs gs ss b xs t → t.sz ≤ 4000 ∧ t.dep ≤ 58
  | [], _, h => h
  | _ :: _, _, h => ⟨h.1.zt, h.1.dt⟩
end J

/-! ### a method of a try's body, which may raise -/
namespace J
open PySem L2 PyProof.Rows
section
variable {X : Cx} {CX : CXT} {k : Nat} {f C : Addr} {fd : FuncData} {ps : List Str} {sp : Sp} {E : L2.St → XK} {m : Str} {apos pos : Pos} {e o : Expr} {es : List Expr} {ta : TE} {t : TA}
def tMethS (C : Addr) (m : Str) (sp : Sp) (E : L2.St → XK) (ta : TE) (t : TA) : TE := fun σ H Q => ta σ H fun x H1 => ∃ a dx fs, x = .ref a ∧ H1 a = some (.ins C dx fs) ∧ fs.lookup m = none ∧ t σ H1 fun vs H2 => sp (x :: vs) H2 Q (E σ)
theorem pe_methS {pl : Sem Bool} (he : PE X o ta) (c : Cls X.K C) (hm : Meth X.K C m f) (F : FnOk X.prog X.w X.K X.mg X.base CX k f fd ps sp) (hr : Room k X.A) (hb : Binds X.K fd ps []) (hx : ∀ σ, PassesAt CX X σ (E σ)) (ha : PA X (e :: es) t)
    (hst : starEach (e :: es) X.env = (false, eval e X.env) :: starEach es X.env := by rfl) (hpl : (backTo pos (starEach es X.env)).any (·.1) = false := by rfl)
    (ht : eval (.Call (.Attribute o m apos) (e :: es) [] pos) X.env = (do
      let ov ← eval o X.env
      standAt apos.atName
      let (f, first) ← holding [ov] (getMethod ov m pl)
      callWith pos f first (backTo pos (starEach (e :: es) X.env)) (backToKw pos (keywordEach [] X.env))) := by rfl) :
    PE X (.Call (.Attribute o m apos) (e :: es) [] pos) (tMethS C m sp E ta t) := by
  refine ⟨fun pins s σ H Q I h => ?_⟩
  refine PySem.W.methodCall_KW (pl := pl) (thn (he.run pins s σ H _ I h) fun u s1 ⟨x, H1, I1, rx, a, dx, fs, ex, ea, l, q⟩ => ?_) ht
  subst ex
  obtain rfl : u = Value.ref a := rx
  refine getmeth_ok I1 ea c hm l ?_
  refine PySem.W.callWith_K (first := [.ref a]) (h₀ := X.base) I.ok.mod.kin hm.kp (thn (ha.run pos pins s1 σ H1 _ I1 q) fun us s2 ⟨vs, H2, I2, r, q2⟩ => ⟨I2.kIn, ?_⟩) hst hpl
  exact run_fnS (us := .ref a :: us) (vs := .ref a :: vs) F hr hb (hx σ) I2 (.cons rfl r) q2
end
end J

/-! ### a signature in the heap -/
namespace J
open PySem L2
/-- a declared operation: its name, its arity, its flag -/
structure Opn where
  nm : Str
  ar : Nat
  cm : Bool
def kvA (es : List Opn) : List (Key × V) := es.map fun e => (.inr e.nm, .int (e.ar : Int))
def kvF (es : List Opn) : List (Key × V) := es.map fun e => (.inr e.nm, .bl e.cm)
def kvR : Nat → List Opn → List (Key × V)
  | _, [] => []
  | i, e :: es => (.inr e.nm, .int (i : Int)) :: kvR (i + 1) es
theorem kvR_len : ∀ (i : Nat) (es : List Opn), (kvR i es).length = es.length
  | _, [] => rfl
  | i, _ :: es => congrArg (· + 1) (kvR_len (i + 1) es)
theorem kvR_snoc : ∀ (i : Nat) (es : List Opn) (e : Opn), kvR i (es ++ [e]) = kvR i es ++ [(.inr e.nm, .int ((i + es.length : Nat) : Int))]
  | _, [], _ => rfl
  | i, x :: es, e => by
    show _ :: kvR (i + 1) (es ++ [e]) = _ :: (kvR (i + 1) es ++ _)
    rw [kvR_snoc (i + 1) es e, List.length_cons, show i + 1 + es.length = i + (es.length + 1) by omega]
theorem kv_none {g : Opn → V} {f : Str} : ∀ {es : List Opn}, f ∉ es.map (·.nm) → valV (es.map fun e => ((.inr e.nm : Key), g e)) (.inr f) = none
  | [], _ => rfl
  | e :: es, h => by
    have h1 : e.nm ≠ f := fun z => h (by rw [← z]; exact List.mem_cons_self ..)
    show valV ((.inr e.nm, g e) :: es.map fun e => ((.inr e.nm : Key), g e)) (.inr f) = none
    rw [valV_neg (fun z => h1 (Sum.inr.inj z))]
    exact kv_none fun m => h (List.mem_cons_of_mem _ m)
theorem kv_some {g : Opn → V} {e : Opn} : ∀ {es : List Opn}, (es.map (·.nm)).Nodup → e ∈ es → valV (es.map fun e => ((.inr e.nm : Key), g e)) (.inr e.nm) = some (g e)
  | [], _, h => nomatch h
  | x :: es, nd, h => by
    have nd := List.nodup_cons.mp nd
    by_cases z : x.nm = e.nm
    · rcases List.mem_cons.mp h with q | q
      · rw [← q]; exact valV_pos rfl
      · exact absurd (List.mem_map.mpr ⟨e, q, z.symm⟩) nd.1
    · rcases List.mem_cons.mp h with q | q
      · exact absurd (by rw [q]) z
      · show valV ((.inr x.nm, g x) :: es.map fun e => ((.inr e.nm : Key), g e)) (.inr e.nm) = _
        rw [valV_neg (fun w => z (Sum.inr.inj w))]
        exact kv_some nd.2 q
theorem kvR_none {f : Str} : ∀ {i : Nat} {es : List Opn}, f ∉ es.map (·.nm) → valV (kvR i es) (.inr f) = none
  | _, [], _ => rfl
  | i, e :: es, h => by
    have h1 : e.nm ≠ f := fun z => h (by rw [← z]; exact List.mem_cons_self ..)
    show valV ((.inr e.nm, _) :: kvR (i + 1) es) (.inr f) = none
    rw [valV_neg (fun z => h1 (Sum.inr.inj z))]
    exact kvR_none fun m => h (List.mem_cons_of_mem _ m)
theorem kvR_some {e : Opn} : ∀ {i j : Nat} {es : List Opn}, (es.map (·.nm)).Nodup → es[j]? = some e → valV (kvR i es) (.inr e.nm) = some (.int ((i + j : Nat) : Int))
  | _, _, [], _, h => by cases h
  | i, 0, x :: es, _, h => by
    cases (show some x = some e from h)
    exact valV_pos rfl
  | i, j + 1, x :: es, nd, h => by
    have nd := List.nodup_cons.mp nd
    have h : es[j]? = some e := h
    have z : x.nm ≠ e.nm := fun z => nd.1 (List.mem_map.mpr ⟨e, List.mem_of_getElem? h, z.symm⟩)
    show valV ((.inr x.nm, _) :: kvR (i + 1) es) (.inr e.nm) = _
    rw [valV_neg (fun w => z (Sum.inr.inj w)), kvR_some nd.2 h, show i + 1 + j = i + (j + 1) by omega]
theorem putA {es : List Opn} {e : Opn} (nin : e.nm ∉ es.map (·.nm)) : putK (kvA es) (.inr e.nm) (.int (e.ar : Int)) = kvA (es ++ [e]) := by
  rw [putK_new _ (show valV (kvA es) _ = none from kv_none nin)]; unfold kvA; rw [List.map_append]; rfl
theorem putFl {es : List Opn} {e : Opn} (nin : e.nm ∉ es.map (·.nm)) : putK (kvF es) (.inr e.nm) (.bl e.cm) = kvF (es ++ [e]) := by
  rw [putK_new _ (show valV (kvF es) _ = none from kv_none nin)]; unfold kvF; rw [List.map_append]; rfl
theorem putR {es : List Opn} {e : Opn} (nin : e.nm ∉ es.map (·.nm)) : putK (kvR 0 es) (.inr e.nm) (.int (es.length : Int)) = kvR 0 (es ++ [e]) := by
  rw [putK_new _ (kvR_none nin), kvR_snoc, Nat.zero_add]
/-- the signature at p: its list of names at n, its dicts at d1, d2, d3 -/
structure SigAt (C : Addr) (H : Hp) (p dx n d1 d2 d3 : Addr) (es : List Opn) : Prop where
  ob : H p = some (.ins C dx [("_names", .ref n), ("_arities", .ref d1), ("_ranks", .ref d2), ("_flags", .ref d3)])
  nl : H n = some (.lst ((es.map (·.nm)).map V.str))
  a1 : H d1 = some (.dK (kvA es))
  a2 : H d2 = some (.dK (kvR 0 es))
  a3 : H d3 = some (.dK (kvF es))
  n12 : d1 ≠ d2
  n13 : d1 ≠ d3
  n23 : d2 ≠ d3
  nd : (es.map (·.nm)).Nodup
theorem SigAt.keep {C : Addr} {H H' : Hp} {p dx n d1 d2 d3 : Addr} {es : List Opn} (h : SigAt C H p dx n d1 d2 d3 es) (k : ∀ a o, H a = some o → a ∈ [p, n, d1, d2, d3] → H' a = some o) : SigAt C H' p dx n d1 d2 d3 es :=
  ⟨k _ _ h.ob (by simp), k _ _ h.nl (by simp), k _ _ h.a1 (by simp), k _ _ h.a2 (by simp), k _ _ h.a3 (by simp), h.n12, h.n13, h.n23, h.nd⟩
theorem SigAt.same {C : Addr} {H H' : Hp} {p dx n d1 d2 d3 : Addr} {es : List Opn} (h : SigAt C H p dx n d1 d2 d3 es) (s : Same H H') : SigAt C H' p dx n d1 d2 d3 es := h.keep fun a o e _ => s a o e
/-- what may be declared -/
structure OpnOk (e : Opn) : Prop where
  low : Low e.nm
  lo : 1 ≤ e.nm.length
  hi : e.nm.length ≤ 8
  ar : e.ar ≤ 3
  cm : e.cm = true → e.ar = 2
/-- a list of pairs (name, arity) at o -/
def OpsAt (H : Hp) (o : Addr) (es : List Opn) : Prop := ∃ as : List Addr, H o = some (.lst (as.map V.ref)) ∧ as.length = es.length ∧
  ∀ (k : Nat) (e : Opn) (a : Addr), es[k]? = some e → as[k]? = some a → H a = some (.tup [.str e.nm, .int (e.ar : Int)])
theorem OpsAt.same {H H' : Hp} {o : Addr} {es : List Opn} (h : OpsAt H o es) (b : Same H H') : OpsAt H' o es := by
  obtain ⟨as, h1, h2, h3⟩ := h
  exact ⟨as, b _ _ h1, h2, fun k e a x y => b _ _ (h3 k e a x y)⟩
theorem nd_take : ∀ {es : List Opn} {i : Nat} {e : Opn}, (es.map (·.nm)).Nodup → es[i]? = some e → e.nm ∉ (es.take i).map (·.nm)
  | [], _, _, _, h => by cases h
  | _ :: _, 0, _, _, _ => fun m => nomatch m
  | x :: es, i + 1, e, nd, h => fun m => by
    have nd := List.nodup_cons.mp nd
    have h : es[i]? = some e := h
    rcases List.mem_cons.mp (show e.nm ∈ x.nm :: (es.take i).map (·.nm) from m) with z | z
    · exact nd.1 (List.mem_map.mpr ⟨e, List.mem_of_getElem? h, z⟩)
    · exact nd_take nd.2 h z
/-! its fields -/
theorem sg_ne {f g : Str} {v y : V} {r : List (Str × V)} (h : ¬ g = f) : putF f y ((g, v) :: r) = (g, v) :: putF f y r := if_neg h
theorem sg_f2 (a b : V) : putF ("_arities" : Str) b [(("_names" : Str), a)] = [(("_names" : Str), a), (("_arities" : Str), b)] := by rw [sg_ne (by decide +kernel)]; rfl
theorem sg_f3 (a b c : V) : putF ("_ranks" : Str) c [(("_names" : Str), a), (("_arities" : Str), b)] = [(("_names" : Str), a), (("_arities" : Str), b), (("_ranks" : Str), c)] := by rw [sg_ne (by decide +kernel), sg_ne (by decide +kernel)]; rfl
theorem sg_f4 (a b c d : V) : putF ("_flags" : Str) d [(("_names" : Str), a), (("_arities" : Str), b), (("_ranks" : Str), c)] = [(("_names" : Str), a), (("_arities" : Str), b), (("_ranks" : Str), c), (("_flags" : Str), d)] := by rw [sg_ne (by decide +kernel), sg_ne (by decide +kernel), sg_ne (by decide +kernel)]; rfl
section
variable (a b c d : V)
theorem sg_names : ([(("_names" : Str), a), (("_arities" : Str), b), (("_ranks" : Str), c), (("_flags" : Str), d)] : List (Str × V)).lookup ("_names" : Str) = some a := by
  rw [List.lookup_cons, show ((("_names" : Str) == ("_names" : Str)) = true) by decide +kernel]
theorem sg_arities : ([(("_names" : Str), a), (("_arities" : Str), b), (("_ranks" : Str), c), (("_flags" : Str), d)] : List (Str × V)).lookup ("_arities" : Str) = some b := by
  rw [List.lookup_cons, show ((("_arities" : Str) == ("_names" : Str)) = false) by decide +kernel]
  show List.lookup _ _ = _
  rw [List.lookup_cons, show ((("_arities" : Str) == ("_arities" : Str)) = true) by decide +kernel]
theorem sg_ranks : ([(("_names" : Str), a), (("_arities" : Str), b), (("_ranks" : Str), c), (("_flags" : Str), d)] : List (Str × V)).lookup ("_ranks" : Str) = some c := by
  rw [List.lookup_cons, show ((("_ranks" : Str) == ("_names" : Str)) = false) by decide +kernel]
  show List.lookup _ _ = _
  rw [List.lookup_cons, show ((("_ranks" : Str) == ("_arities" : Str)) = false) by decide +kernel]
  show List.lookup _ _ = _
  rw [List.lookup_cons, show ((("_ranks" : Str) == ("_ranks" : Str)) = true) by decide +kernel]
theorem sg_flags : ([(("_names" : Str), a), (("_arities" : Str), b), (("_ranks" : Str), c), (("_flags" : Str), d)] : List (Str × V)).lookup ("_flags" : Str) = some d := by
  rw [List.lookup_cons, show ((("_flags" : Str) == ("_names" : Str)) = false) by decide +kernel]
  show List.lookup _ _ = _
  rw [List.lookup_cons, show ((("_flags" : Str) == ("_arities" : Str)) = false) by decide +kernel]
  show List.lookup _ _ = _
  rw [List.lookup_cons, show ((("_flags" : Str) == ("_ranks" : Str)) = false) by decide +kernel]
  show List.lookup _ _ = _
  rw [List.lookup_cons, show ((("_flags" : Str) == ("_flags" : Str)) = true) by decide +kernel]
theorem sg_no {m : Str} (h1 : (m == ("_names" : Str)) = false) (h2 : (m == ("_arities" : Str)) = false) (h3 : (m == ("_ranks" : Str)) = false) (h4 : (m == ("_flags" : Str)) = false) : ([(("_names" : Str), a), (("_arities" : Str), b), (("_ranks" : Str), c), (("_flags" : Str), d)] : List (Str × V)).lookup m = none := by
  rw [List.lookup_cons, h1]
  show List.lookup _ _ = _
  rw [List.lookup_cons, h2]
  show List.lookup _ _ = _
  rw [List.lookup_cons, h3]
  show List.lookup _ _ = _
  rw [List.lookup_cons, h4]; rfl
end
/-! ### o.m(e, .., k = v, ..) -/
def tMethN (C : Addr) (m : Str) (n j : Nat) (sp : Sp) (gV : List V → List V → List V) (E : XK) (ta : TE) (t tk : TA) : TE := fun σ H Q => ta σ H fun x H1 => ∃ a dx fs, x = .ref a ∧ H1 a = some (.ins C dx fs) ∧ fs.lookup m = none ∧
  t σ H1 fun vs H2 => tk σ H2 fun zs H3 => vs.length + 1 = n ∧ zs.length = j ∧ sp (gV (x :: vs) zs) H3 Q E
section
variable {X : Cx} {CX : CXT} {k n : Nat} {f C : Addr} {fd : FuncData} {ps ks : List Str} {sp : Sp} {E : XK} {m : Str} {pos apos : Pos} {e o : Expr} {es : List Expr} {kws : List Keyword} {ta : TE} {t tk : TA} {g : List Value → List Value → List Value} {gV : List V → List V → List V}
theorem pe_methN {pl : Sem Bool} (he : PE X o ta) (c : Cls X.K C) (hm : Meth X.K C m f) (F : FnOk X.prog X.w X.K X.mg X.base CX k f fd ps sp) (hr : Room k X.A) (hb : KBn X.K fd ps n ks g gV) (hx : Passes CX X E) (ha : PA X (e :: es) t) (hkw : PK X kws tk)
    (hall : (backToKw pos (keywordEach kws X.env)).all (·.1.isSome) = true := by rfl) (hks : (backToKw pos (keywordEach kws X.env)).filterMap (·.1) = ks := by rfl)
    (hst : starEach (e :: es) X.env = (false, eval e X.env) :: starEach es X.env := by rfl) (hpl : ((backTo pos (starEach (e :: es) X.env)).any (·.1) || (backToKw pos (keywordEach kws X.env)).any (·.1.isNone)) = false := by rfl)
    (ht : eval (.Call (.Attribute o m apos) (e :: es) kws pos) X.env = (do
      let ov ← eval o X.env
      standAt apos.atName
      let (f, first) ← holding [ov] (getMethod ov m pl)
      callWith pos f first (backTo pos (starEach (e :: es) X.env)) (backToKw pos (keywordEach kws X.env))) := by rfl) :
    PE X (.Call (.Attribute o m apos) (e :: es) kws pos) (tMethN C m n ks.length sp gV E ta t tk) := by
  refine ⟨fun pins s σ H Q I h => ?_⟩
  refine PySem.W.methodCall_KW (pl := pl) (thn (he.run pins s σ H _ I h) fun u s1 ⟨x, H1, I1, rx, a, dx, fs, ex, ea, l, q⟩ => ?_) ht
  subst ex
  obtain rfl : u = Value.ref a := rx
  refine getmeth_ok I1 ea c hm l ?_
  refine PySem.W.callWith_KW (first := [.ref a]) (h₀ := X.base) I.ok.mod.kin hm.kp hall (thn (ha.run pos pins s1 σ H1 _ I1 q) fun us s2 ⟨vs, H2, I2, r, q2⟩ => ?_) hpl hst
  refine thn (hkw.run pos pins s2 σ H2 _ I2 q2) fun ws s3 ⟨zs, H3, I3, rz, l1, l2, q3⟩ => ⟨I3.kIn, ?_⟩
  rw [hks]
  exact run_fnN (us := .ref a :: us) (vs := .ref a :: vs) F hr hb hx I3 (.cons rfl r) rz l1 l2 q3
end
/-- every parameter is written, some by keyword -/
theorem kbn_all {K : PySem.W.Frag} {x qual : Str} {params : Arguments} {body : List Stmt} {scope : Scope} {kws : List (Str × V)} {f : Addr} {fd : FuncData} {ps : List Str} (F : FunD K x qual params body scope [] kws f fd) (n : Nat) (ks : List Str)
    (h : ∀ (kV doc pm : Value) (an : Option Addr) (cdv ct : Value) (us ws : List Value), us.length = n → ws.length = ks.length → bindArgs (PySem.W.fnOf x qual params body scope .none kV doc pm an cdv ct) ⟨us, ks.zip ws⟩ = pure (ps.zip (us ++ ws))) :
    KBn K fd ps n ks (fun us ws => us ++ ws) (fun vs zs => vs ++ zs) := by
  obtain ⟨oc, od, dV, kV, doc, pm, an, cdv, ct, osl, rfl, lk, hcd, hD, hK⟩ := F.ex
  rcases hD with ⟨_, rfl⟩ | ⟨e, _⟩
  · exact ⟨fun s us ws _ l1 l2 => .of_eq (h kV doc pm an cdv ct us ws l1 l2), fun r1 r2 => r1.append r2⟩
  · exact absurd rfl e
end J

/-! ### a run has one end: what two promises say of a call holds together -/
namespace J
open PySem
theorem runs_det {M : Model} {Γ : Ctx} {p : Pos} {t : Sem Fin} {fs : List Frame} {s s' : Shared} {e : End} (h : Runs M Γ p t fs s e s') : ∀ {e2 : End} {s2 : Shared}, Runs M Γ p t fs s e2 s2 → e = e2 ∧ s' = s2 := by
  induction h with
  | load e0 _ ih => intro _ _ h; cases h with | load e1 h1 => cases e0.symm.trans e1; exact ih h1
  | genState e0 _ ih => intro _ _ h; cases h with | genState e1 h1 => cases e0.symm.trans e1; exact ih h1
  | call _ _ ih1 ih2 =>
    intro _ _ h
    cases h with
    | call h1 h2 => obtain ⟨a, b⟩ := ih1 h1; cases a; cases b; exact ih2 h2
    | callSusp h1 => obtain ⟨a, b⟩ := ih1 h1; cases a
  | callSusp _ ih1 =>
    intro _ _ h
    cases h with
    | call h1 h2 => obtain ⟨a, b⟩ := ih1 h1; cases a
    | callSusp h1 => obtain ⟨a, b⟩ := ih1 h1; cases a; cases b; exact ⟨rfl, rfl⟩
  | resumeFresh e0 _ q0 _ ih1 ih2 =>
    intro _ _ h
    cases h with
    | resumeFresh e1 h1 q1 h2 => cases e0.symm.trans e1; obtain ⟨a, b⟩ := ih1 h1; cases a; cases b; exact ih2 h2
    | resumeSuspended e1 h1 q1 h2 => cases e0.symm.trans e1
    | resumeJustStarted e1 n1 h1 => exact absurd rfl n1
    | resumeRunning e1 h1 => cases e0.symm.trans e1
    | resumeFinished e1 h1 => cases e0.symm.trans e1
  | resumeSuspended e0 _ q0 _ ih1 ih2 =>
    intro _ _ h
    cases h with
    | resumeFresh e1 h1 q1 h2 => cases e0.symm.trans e1
    | resumeSuspended e1 h1 q1 h2 => cases e0.symm.trans e1; obtain ⟨a, b⟩ := ih1 h1; cases a; cases b; exact ih2 h2
    | resumeJustStarted e1 n1 h1 => cases e0.symm.trans e1
    | resumeThrowFresh e1 h1 => cases e0.symm.trans e1
    | resumeRunning e1 h1 => cases e0.symm.trans e1
    | resumeFinished e1 h1 => cases e0.symm.trans e1
  | resumeJustStarted e0 n0 _ ih =>
    intro _ _ h
    cases h with
    | resumeFresh e1 h1 q1 h2 => exact absurd rfl n0
    | resumeSuspended e1 h1 q1 h2 => cases e0.symm.trans e1
    | resumeJustStarted e1 n1 h1 => exact ih h1
    | resumeRunning e1 h1 => cases e0.symm.trans e1
    | resumeFinished e1 h1 => cases e0.symm.trans e1
  | resumeThrowFresh e0 _ ih =>
    intro _ _ h
    cases h with
    | resumeSuspended e1 h1 q1 h2 => cases e0.symm.trans e1
    | resumeThrowFresh e1 h1 => exact ih h1
    | resumeRunning e1 h1 => cases e0.symm.trans e1
    | resumeFinished e1 h1 => cases e0.symm.trans e1
  | resumeRunning e0 _ ih =>
    intro _ _ h
    cases h with
    | resumeFresh e1 h1 q1 h2 => cases e0.symm.trans e1
    | resumeSuspended e1 h1 q1 h2 => cases e0.symm.trans e1
    | resumeJustStarted e1 n1 h1 => cases e0.symm.trans e1
    | resumeThrowFresh e1 h1 => cases e0.symm.trans e1
    | resumeRunning e1 h1 => exact ih h1
    | resumeFinished e1 h1 => cases e0.symm.trans e1
  | resumeFinished e0 _ ih =>
    intro _ _ h
    cases h with
    | resumeFresh e1 h1 q1 h2 => cases e0.symm.trans e1
    | resumeSuspended e1 h1 q1 h2 => cases e0.symm.trans e1
    | resumeJustStarted e1 n1 h1 => cases e0.symm.trans e1
    | resumeThrowFresh e1 h1 => cases e0.symm.trans e1
    | resumeRunning e1 h1 => cases e0.symm.trans e1
    | resumeFinished e1 h1 => exact ih h1
  | segRet _ _ ih1 ih2 =>
    intro _ _ h
    cases h with
    | segRet h1 h2 => obtain ⟨a, b⟩ := ih1 h1; cases a; cases b; exact ih2 h2
    | segSuspOut n1 h1 => obtain ⟨a, b⟩ := ih1 h1; cases a
    | segSuspGen n1 h1 q1 h2 => obtain ⟨a, b⟩ := ih1 h1; cases a
  | segGen _ _ ih1 ih2 =>
    intro _ _ h
    cases h with
    | segGen h1 h2 => obtain ⟨a, b⟩ := ih1 h1; cases a; cases b; exact ih2 h2
    | segSuspOut n1 h1 => obtain ⟨a, b⟩ := ih1 h1; cases a
    | segSuspGen n1 h1 q1 h2 => obtain ⟨a, b⟩ := ih1 h1; cases a
  | segSuspOut n0 _ ih1 =>
    intro _ _ h
    cases h with
    | segRet h1 h2 => obtain ⟨a, b⟩ := ih1 h1; cases a
    | segGen h1 h2 => obtain ⟨a, b⟩ := ih1 h1; cases a
    | segSuspOut n1 h1 => obtain ⟨a, b⟩ := ih1 h1; cases a; cases b; exact ⟨rfl, rfl⟩
    | segSuspGen n1 h1 q1 h2 => cases n0.symm.trans n1
  | segSuspGen n0 _ q0 _ ih1 ih2 =>
    intro _ _ h
    cases h with
    | segRet h1 h2 => obtain ⟨a, b⟩ := ih1 h1; cases a
    | segGen h1 h2 => obtain ⟨a, b⟩ := ih1 h1; cases a
    | segSuspOut n1 h1 => cases n0.symm.trans n1
    | segSuspGen n1 h1 q1 h2 => cases n0.symm.trans n1; obtain ⟨a, b⟩ := ih1 h1; cases a; cases b; exact ih2 h2
  | done => intro _ _ h; cases h; exact ⟨rfl, rfl⟩
  | raise => intro _ _ h; cases h; exact ⟨rfl, rfl⟩
  | yield => intro _ _ h; cases h; exact ⟨rfl, rfl⟩
  | again _ _ ih => intro _ _ h; cases h with | again _ h1 => exact ih h1
  | update _ _ ih => intro _ _ h; cases h with | update _ h1 => exact ih h1
  | choose _ _ ih => intro _ _ h; cases h with | choose _ h1 => exact ih h1
  | rule _ ih => intro _ _ h; cases h with | rule h1 => exact ih h1
  | «at» _ ih => intro _ _ h; cases h with | «at» h1 => exact ih h1
  | loadIfAlive _ ih => intro _ _ h; cases h with | loadIfAlive h1 => exact ih h1
  | point _ ih => intro _ _ h; cases h with | point h1 => exact ih h1
  | alloc _ ih => intro _ _ h; cases h with | alloc h1 => exact ih h1
  | fresh _ ih => intro _ _ h; cases h with | fresh h1 => exact ih h1
  | ask _ ih => intro _ _ h; cases h with | ask h1 => exact ih h1
  | os _ ih => intro _ _ h; cases h with | os h1 => exact ih h1
  | handled _ ih => intro _ _ h; cases h with | handled h1 => exact ih h1
  | stack _ ih => intro _ _ h; cases h with | stack h1 => exact ih h1
  | thread _ ih => intro _ _ h; cases h with | thread h1 => exact ih h1
  | newGen _ ih => intro _ _ h; cases h with | newGen h1 => exact ih h1
theorem codeAny_all {M : Model} {A : Around} {c : Code} {s : Shared} {I : Type} {R : I → Result → Shared → Prop} (i : I) (h : ∀ i, codeAny M A c (R i) s) : codeAny M A c (fun r s' => ∀ i, R i r s') s := fun Γ p e b => by
  obtain ⟨r, s', hr, _⟩ := h i Γ p e b
  refine ⟨r, s', hr, fun j => ?_⟩
  obtain ⟨r2, s2, hr2, q⟩ := h j Γ p e b
  obtain ⟨a, b⟩ := runs_det hr hr2
  cases a; cases b
  exact q
/-- a freed place stays so -/
def Dead (a : Addr) (h : Heap) : Prop := a < h.objs.size ∧ h.get? a = none
theorem dead_push {a : Addr} {h : Heap} {o : Obj} (d : Dead a h) : Dead a (h.push o) := by
  obtain ⟨objs, l⟩ := h
  refine ⟨?_, ?_⟩
  · show a < (objs.push o).size
    rw [Array.size_push]
    exact Nat.lt_succ_of_lt d.1
  · have e : (objs.push o)[a]? = objs[a]? := by
      rw [Array.getElem?_push, if_neg (Nat.ne_of_lt d.1)]
    have q := d.2
    show Heap.get? ⟨objs.push o, l⟩ a = none
    unfold Heap.get? at q ⊢
    dsimp only at q ⊢
    rw [e]
    exact q
theorem dead_update {a b : Addr} {h : Heap} {f : Obj → Obj} (d : Dead a h) (hs : (h.get? b).isSome = true) : Dead a (h.update b f) := by
  have ne : b ≠ a := fun z => by rw [z, d.2] at hs; cases hs
  obtain ⟨objs, l⟩ := h
  refine ⟨?_, ?_⟩
  · show a < (objs.modify b f).size
    rw [Array.size_modify]
    exact d.1
  · have e : (objs.modify b f)[a]? = objs[a]? := by
      rw [Array.getElem?_modify, if_neg ne]
    have q := d.2
    show Heap.get? ⟨objs.modify b f, l⟩ a = none
    unfold Heap.get? at q ⊢
    dsimp only at q ⊢
    rw [e]
    exact q
theorem runs_dead {M : Model} {Γ : Ctx} {p : Pos} {t : Sem Fin} {fs : List Frame} {s s' : Shared} {e : End} {a : Addr} (h : Runs M Γ p t fs s e s') : Dead a s.heap → Dead a s'.heap := by
  induction h with
  | done => exact id
  | raise => exact id
  | yield => exact id
  | update hs _ ih => exact fun d => ih (dead_update d hs)
  | alloc _ ih => exact fun d => ih (dead_push d)
  | call _ _ ih1 ih2 => exact fun d => ih2 (ih1 d)
  | callSusp _ ih => exact ih
  | resumeFresh _ _ _ _ ih1 ih2 => exact fun d => ih2 (ih1 d)
  | resumeSuspended _ _ _ _ ih1 ih2 => exact fun d => ih2 (ih1 d)
  | resumeJustStarted _ _ _ ih => exact ih
  | resumeThrowFresh _ _ ih => exact ih
  | resumeRunning _ _ ih => exact ih
  | resumeFinished _ _ ih => exact ih
  | segRet _ _ ih1 ih2 => exact fun d => ih2 (ih1 d)
  | segGen _ _ ih1 ih2 => exact fun d => ih2 (ih1 d)
  | segSuspOut _ _ ih => exact ih
  | segSuspGen _ _ _ _ ih1 ih2 => exact fun d => ih2 (ih1 d)
  | again _ _ ih => exact ih
  | choose _ _ ih => exact ih
  | load _ _ ih => exact ih
  | genState _ _ ih => exact ih
  | rule _ ih => exact ih
  | «at» _ ih => exact ih
  | loadIfAlive _ ih => exact ih
  | point _ ih => exact ih
  | fresh _ ih => exact ih
  | ask _ ih => exact ih
  | os _ ih => exact ih
  | handled _ ih => exact ih
  | stack _ ih => exact ih
  | thread _ ih => exact ih
  | newGen _ ih => exact ih
theorem codeAny_dead {M : Model} {A : Around} {c : Code} {s : Shared} {R : Result → Shared → Prop} (h : codeAny M A c R s) : codeAny M A c (fun r s' => R r s' ∧ ∀ a, Dead a s.heap → Dead a s'.heap) s := fun Γ p e b => by
  obtain ⟨r, s', hr, q⟩ := h Γ p e b
  exact ⟨r, s', hr, q, fun a => runs_dead hr⟩
end J

/-! ### len(o) by the own __len__ of o's class -/
namespace J
open PySem PySem.Spec PyProof.Rows L2
structure LnC (K : PySem.W.Frag) (C f : Addr) : Prop where
  it : PySem.W.findIn K (.ref C) "__len__" = some (some (.ref f))
  fn : PySem.W.isFn K (.ref f) = true
def rLenO (C : Addr) (sp : Sp) (E : XK) : List V → Hp → VK → Prop := fun xs H Q => ∃ a dx fs, xs = [.ref a] ∧ H a = some (.ins C dx fs) ∧
  sp [.ref a] H (fun v H' => ∃ n : Nat, v = .int (n : Int) ∧ n ≤ 1000 ∧ Q (.int (n : Int)) H') E
theorem call_lenO {X : Cx} {CX : CXT} {k : Nat} {C f : Addr} {fd : FuncData} {ps : List Str} {sp : Sp} {E : XK} (hc : LnC X.K C f) (F : FnOk X.prog X.w X.K X.mg X.base CX k f fd ps sp) (hr : Room (k + 1) X.A) (hb : Binds X.K fd ps []) (hx : Passes CX X E) :
    CallR X (.builtin "len") (rLenO C sp E) := by
  intro pins s σ H xs us Q I r q
  obtain ⟨a, dx, fs, rfl, ha, hs⟩ := q
  obtain ⟨u, rfl, rx⟩ := vals1 r
  cases rx
  obtain ⟨mA, J, _⟩ := ins_get I.hok ha
  obtain ⟨od, J, _⟩ := J.look
  have hl := F.len _ _ _ _ hs
  refine Calls.call_function_entry kind_len plain_len entry_len (args_len1 _) ?_
  unfold PySem.Builtin.«len»
  refine wpAny_bind (m := oneArg "len" _) (wpAny_pure ?_)
  refine wpAny_bind (m := callSpecial? (.ref a) (Str.ofString "__len__")) (PySem.W.special_fn (args := []) I.kIn J hc.it (beq_iff_eq.mp hc.fn) ?_)
  refine wpAny_call (codeAny_mono (F.run X.A.in1 X.stack s H ⟨[.ref a], []⟩ [.ref a] [.ref a] _ E hr.in1 I.env0.in1 (by
    have := hb s [.ref a] I.kIn (by simpa using hl)
    simpa using this) (.cons rfl .nil) hs) fun r s' hq => ?_)
  cases r with
  | error e => exact hx pins σ H s e s' I hq
  | ok fl =>
    cases fl with
    | next => exact False.elim hq
    | brk => exact False.elim hq
    | cont => exact False.elim hq
    | ret u =>
      obtain ⟨v, H', I', rv, n, rfl, hn, q⟩ := I.after hq
      obtain ⟨t, rfl⟩ := rv
      refine wpAny_bind (wpAny_holding (wpAny_pure ?_))
      refine wpAny_bind (wpAny_letGo ?_)
      show wpAny _ _ (if ((n : Nat) : Int) < 0 then _ else _) _ _ _
      rw [if_neg (by omega)]
      show wpAny _ _ (if ((n : Nat) : Int) ≥ 2 ^ 63 then _ else _) _ _ _
      rw [if_neg (by omega)]
      exact wpAny_bind (wpAny_mkInt (wpAny_pure ⟨_, rfl, .int n, H', I'.tok _, ⟨_, rfl⟩, q⟩))
end J
/-! ### for x in o, list(o): the own __iter__ of o's class gives an iterator over a list -/
namespace J
open PySem PySem.Spec PyProof.Rows L2
structure ItrC (K : PySem.W.Frag) (C f : Addr) : Prop where
  it : PySem.W.findIn K (.ref C) "__iter__" = some (some (.ref f))
  fn : PySem.W.isFn K (.ref f) = true
def iOwn (K : PySem.W.Frag) (C : Addr) (sp : Sp) (E : XK) (ta : TE) : TI := fun σ H R => ta σ H fun x H1 => ∃ a dx fs l, x = .ref a ∧ H1 a = some (.ins C dx fs) ∧
  sp [.ref a] H1 (fun v H' => ∃ it, v = .ref it ∧ H1 it = none ∧ H' = upd H1 it (ItO l it 0)) E ∧ R (Itl K l) H1
theorem pi_own {X : Cx} {tg e : Expr} {ta : TE} {CX : CXT} {k : Nat} {C f : Addr} {fd : FuncData} {ps : List Str} {sp : Sp} {E : XK} (he : PE X e ta) (hc : ItrC X.K C f) (F : FnOk X.prog X.w X.K X.mg X.base CX k f fd ps sp) (hr : Room k X.A) (hb : Binds X.K fd ps []) (hx : Passes CX X E) :
    PI X tg e (iOwn X.K C sp E ta) := by
  refine ⟨fun pins s σ H R I h => ?_⟩
  refine thn (he.run pins s σ H _ I h) fun v s1 ⟨x, H1, I1, r1, a, dx, fs, l, ex, ha, hsp, q⟩ => ?_
  subst ex
  cases r1
  obtain ⟨mA, J, _⟩ := ins_get I1.hok ha
  obtain ⟨od, J, _⟩ := J.look
  obtain ⟨m, hF⟩ := I1.fr
  refine PySem.W.owit_iter hF I1.ok.mod.kin J hc.it hc.fn ?_
  have hl := F.len _ _ _ _ hsp
  refine wpAny_call (codeAny_mono (codeAny_dead (F.run X.A X.stack s1 H1 ⟨[.ref a], []⟩ [.ref a] [.ref a] _ E hr I1.env0 (by
    have := hb s1 [.ref a] I1.kIn (by simpa using hl)
    simpa using this) (.cons rfl .nil) hsp)) fun r s' hq => ?_)
  obtain ⟨hq, dead⟩ := hq
  cases r with
  | error e => exact hx pins σ H1 s1 e s' I1 hq
  | ok fl =>
    cases fl with
    | next => exact False.elim hq
    | brk => exact False.elim hq
    | cont => exact False.elim hq
    | ret u =>
      obtain ⟨v', H', os, bare, un, hok, rv', it', rfl, hn', eH'⟩ := id hq
      obtain ⟨v, H2, I2, rv, it, rfl, hn, eH⟩ := I1.after hq
      have e1 : it' = it := by
        cases rv
        cases rv'
        rfl
      subst e1
      subst eH
      subst eH'
      cases rv
      have hi : upd H1 it' (ItO l it' 0) it' = some (ItO l it' 0) := upd_same
      have eo := itO_get I2 hi
      have young : s1.heap.objs.size ≤ it' := Nat.le_of_not_lt fun lt => by
        cases e : s1.heap.get? it' with
        | some o =>
          have := un.free it' o e hn (by simp)
          rw [hi] at this; cases this
        | none =>
          have := (dead it' ⟨lt, e⟩).2
          rw [eo] at this; cases this
      have hT : s'.TypeIs (.ref it') "list_iterator" := ⟨_, eo, rfl⟩
      unfold PySem.W.OwitIt
      refine wpAny_specialOf (name := Str.ofString "__next__") hT slot_listiter_next.lookup ?_
      have hi' := hi
      unfold ItO at hi'
      have st : s'.heap.IsListIter it' l 0 := ⟨_, eo, rfl, rfl⟩
      refine ⟨it', [it'], _, _, H1, rfl, ?_, turn_list l it', st, fun b hb => ?_, q⟩
      · have := ItX.inv_drop I2 hi'
        rwa [ItX.dropH_upd hn] at this
      · have e : b = it' := by simpa using hb
        rw [e]
        have := ItX.inv_fp I2 hi (Nat.le_trans I1.sz young)
        rwa [ItX.dropH_upd hn] at this
end J

/-! ### list(o): the own __iter__ gives an iterator over a list, the own __len__ tells a number -/
namespace J
open PySem PySem.Spec PyProof.Rows L2
section
variable {X : Cx} {pins : List (Addr × Obj)} {σ : L2.St}
theorem ext_list {H : Hp} {l S it : Addr} {xs : List V} {A1 : Around} {Rs : Result → Shared → Prop} (hA : A1.in1.handled = none) (hl : H l = some (.lst xs)) (hz : xs.length ≤ sizeLine) (hS : H S = none) (hn : H it = none) (si : S ≠ it)
    (hdone : ∀ s, Inv X pins σ (upd H S (.lst xs)) s → Rs (.ok (.ret .none)) s) :
    ∀ (k i : Nat) (s : Shared), xs.length - i = k → i ≤ xs.length → Inv X pins σ (upd H S (.lst (xs.take i))) s → FpOk X pins H it → s.heap.IsListIter it l i →
      codeAny (model X.prog X.w) A1 (.builtin "list.extend.loop" ⟨[.ref S, .ref it, .none], []⟩) Rs s := by
  have hl2 : ∀ ys, upd H S (.lst ys) l = some (.lst xs) := fun ys => by rw [upd_ne (ne_of_none hl hS)]; exact hl
  have hn2 : ∀ ys, upd H S (.lst ys) it = none := fun ys => by rw [upd_ne si.symm]; exact hn
  intro k
  induction k with
  | zero =>
    intro i s hk hi I hf st
    have hin : i = xs.length := by omega
    subst hin
    refine codeAny_builtin PySem.F.entry_extend_loop ?_
    rw [Around.under_plainId PySem.F.plain_extend_loop _]
    show wpAny _ A1.in1 (pyNext (.ref it) >>= _) _ _ s
    obtain ⟨its, rv, p, _⟩ := I.list (SqL.of (hl2 _))
    have hlen := rv.length
    obtain ⟨f0, f1, f2, f3, f4, f5⟩ := hf
    refine wpAny_bind (wpAny_pyNext_list_end hA st p.isList (by simp; omega) fun h' eb => ?_)
    have I1 : Inv X pins σ (upd H S (.lst (xs.take xs.length))) { s with heap := h' } := I.turned (t' := s.toks) (fun b ob hb e => eb b ob hb e) (hn2 _) f1 f3 f4 f5
    rw [List.take_length] at I1
    exact wpAny_pure (hdone _ I1)
  | succ k ih =>
    intro i s hk hi I hf st
    have lt : i < xs.length := by omega
    have gx := List.getElem?_eq_getElem lt
    refine codeAny_builtin PySem.F.entry_extend_loop ?_
    rw [Around.under_plainId PySem.F.plain_extend_loop _]
    show wpAny _ A1.in1 (pyNext (.ref it) >>= _) _ _ s
    obtain ⟨its, rv, p, _⟩ := I.list (SqL.of (hl2 _))
    obtain ⟨u, hu, ru⟩ := rv.get gx
    obtain ⟨f0, f1, f2, f3, f4, f5⟩ := id hf
    refine wpAny_bind (wpAny_pyNext_list_item st p.isList (x := u) (by simpa using hu) fun h' st' sb => ?_)
    have I1 : Inv X pins σ (upd H S (.lst (xs.take i))) { s with heap := h' } := I.turned (t' := s.toks) (fun b ob hb e => (sb.2 b hb).trans e) (hn2 _) f1 f3 f4 f5
    obtain ⟨z, it2, n2, r2, hl3, e2⟩ := I1.lstM upd_same
    show wpAny _ A1.in1 (updateSeq S (·.push u) >>= _) _ _ _
    have ltk : (xs.take i).length < sizeLine := by rw [List.length_take]; omega
    refine wpAny_bind (wpAny_updateSeq e2 rfl (wpAny_pure ⟨plainId_quiet PySem.F.plain_extend_loop _, ?_⟩) (by rw [List.size_toArray]; omega) (by show (it2.toArray.push u).size ≤ sizeLine + 1; rw [Array.size_push, List.size_toArray]; omega))
    have I2 := I1.lset (f := (·.push u)) (its' := it2 ++ [u]) (ys := xs.take i ++ [xs[i]]) (t' := s.toks) upd_same e2 (by simp) (r2.append (.cons ru .nil)) (by rw [List.length_append, List.length_singleton]; omega)
    rw [upd_upd, show xs.take i ++ [xs[i]] = xs.take (i + 1) by rw [List.take_succ, gx]; rfl] at I2
    exact ih (i + 1) _ (by omega) (by omega) I2 hf (st'.at fun o e => (Heap.get?_update_other _ _ si).trans e)
variable {C fi fl a : Addr} {fdI fdL : FuncData} {psI psL : List Str} {spI spL : Sp}
theorem len_hintO {kL : Nat} {A1 : Around} {H : Hp} {s : Shared} {dx : Addr} {fs : List (Str × V)} {Q : Bool → Shared → Prop} {E : Value → Shared → Prop} {P : Hp → Prop} (sb : Sub X (kL + 1) A1) (hc : LnC X.K C fl) (F : FnOk X.prog X.w X.K X.mg X.base CX0 kL fl fdL psL spL)
    (hb : Binds X.K fdL psL []) (I : Inv X pins σ H s) (ha : H a = some (.ins C dx fs)) (hs : spL [.ref a] H (fun v H' => ∃ n : Nat, v = .int (n : Int) ∧ n ≤ 1000 ∧ P H') (fun _ _ _ => False))
    (h : ∀ b H' s', Inv X pins σ H' s' → P H' → Q b s') : wpAny (model X.prog X.w) A1 (Builtin.List.listLengthHint (.ref a)) Q E s := by
  obtain ⟨mA, J, _⟩ := ins_get I.hok ha
  obtain ⟨od, J, _⟩ := J.look
  have hl := F.len _ _ _ _ hs
  have e0 : Env0 X.prog X.w X.K X.mg X.base A1.in1 X.stack s H := by
    have e := I.env0
    exact ⟨by rw [sb.in1.fr]; exact e.frames, e.mod, e.bs, e.bsz, e.funs, e.frf, e.hok, e.bare⟩
  unfold Builtin.List.listLengthHint
  refine wpAny_bind (wpAny_bind (J.type.here ((PySem.W.looks_findIn I.kIn hc.it).here ?_)))
  refine PySem.W.KFB.if_not rfl ?_
  refine wpAny_ite_split (fun _ => ?_) (fun z => absurd rfl z)
  refine wpAny_bind (wpAny_rule ?_)
  refine wpAny_bind (wpAny_attempt ?_)
  refine Calls.call_function_entry kind_len plain_len entry_len (args_len1 _) ?_
  unfold PySem.Builtin.«len»
  refine wpAny_bind (m := oneArg "len" _) (wpAny_pure ?_)
  refine wpAny_bind (m := callSpecial? (.ref a) (Str.ofString "__len__")) (PySem.W.special_fn (args := []) I.kIn J hc.it (beq_iff_eq.mp hc.fn) ?_)
  refine wpAny_call (codeAny_mono (F.run A1.in1 X.stack s H ⟨[.ref a], []⟩ [.ref a] [.ref a] _ _ sb.in1.room e0 (by
    have := hb s [.ref a] I.kIn (by simpa using hl)
    simpa using this) (.cons rfl .nil) hs) fun r s' hq => ?_)
  cases r with
  | error e => exact hq.elim
  | ok f =>
    cases f with
    | next => exact False.elim hq
    | brk => exact False.elim hq
    | cont => exact False.elim hq
    | ret u =>
      obtain ⟨v, H', I', rv, n, rfl, hn, q⟩ := I.after hq
      obtain ⟨t, rfl⟩ := rv
      refine wpAny_bind (wpAny_holding (wpAny_pure ?_))
      refine wpAny_bind (wpAny_letGo ?_)
      show wpAny _ _ (if ((n : Nat) : Int) < 0 then _ else _) _ _ _
      rw [if_neg (by omega)]
      show wpAny _ _ (if ((n : Nat) : Int) ≥ 2 ^ 63 then _ else _) _ _ _
      rw [if_neg (by omega)]
      refine wpAny_bind (wpAny_mkInt (wpAny_pure ?_))
      refine ⟨_, rfl, ?_⟩
      have htl : Builtin.List.listTooLong (((n : Nat) : Int).toNat) = false := by simp [Builtin.List.listTooLong, sizeLine]; omega
      refine wpAny_bind (m := asInt? _) (wpAny_pure ?_)
      exact wpAny_ite_split (fun hab => absurd hab (by rw [htl]; decide)) (fun _ => wpAny_pure (h _ _ _ (I'.tok _) q))
theorem ext_own {kI kL : Nat} {H : Hp} {l S dx : Addr} {fs : List (Str × V)} {zs : List V} {A1 : Around} {Rs : Result → Shared → Prop} {s : Shared} (hA : A1.in1.handled = none) (sb : Sub X (kI + kL + 1) A1.in1) (hi : ItrC X.K C fi) (hc : LnC X.K C fl)
    (FI : FnOk X.prog X.w X.K X.mg X.base CX0 kI fi fdI psI spI) (FL : FnOk X.prog X.w X.K X.mg X.base CX0 kL fl fdL psL spL) (bI : Binds X.K fdI psI []) (bL : Binds X.K fdL psL [])
    (I : Inv X pins σ (upd H S (.lst [])) s) (ha : H a = some (.ins C dx fs)) (hl : H l = some (.lst zs)) (hz : zs.length ≤ 1000) (hS : H S = none)
    (hspI : spI [.ref a] (upd H S (.lst [])) (fun v H' => ∃ it, v = .ref it ∧ upd H S (.lst []) it = none ∧ H' = upd (upd H S (.lst [])) it (ItO l it 0)) (fun _ _ _ => False))
    (hspL : ∀ it, upd H S (.lst []) it = none → spL [.ref a] (upd (upd H S (.lst [])) it (ItO l it 0)) (fun v H' => ∃ n : Nat, v = .int (n : Int) ∧ n ≤ 1000 ∧ H' = upd (upd H S (.lst [])) it (ItO l it 0)) (fun _ _ _ => False))
    (hdone : ∀ s, Inv X pins σ (upd H S (.lst zs)) s → Rs (.ok (.ret .none)) s) :
    wpAny (model X.prog X.w) A1.in1 (Builtin.List.listExtendWith (.ref S) (.ref a) .none)
      (fun fin s' => match fin with | .done f => Rs (.ok f) s' | .again c' => c'.quiet = true ∧ codeAny (model X.prog X.w) A1 c' Rs s') (fun e s' => Rs (.error e) s') s := by
  have hne : S ≠ a := (ne_of_none ha hS).symm
  have ha2 : upd H S (.lst []) a = some (.ins C dx fs) := by rw [upd_ne (ne_of_none ha hS)]; exact ha
  obtain ⟨mA, J, _⟩ := ins_get I.hok ha2
  obtain ⟨od, J, _⟩ := J.look
  obtain ⟨m0, hF⟩ := I.fr
  unfold Builtin.List.listExtendWith
  refine wpAny_bind (J.type.here ?_)
  have h1 : Builtin.List.listSameRef (.ref S) (.ref a) = false := by simp [Builtin.List.listSameRef, hne]
  have h2 : (Value.ref C == Value.type "list") = false := rfl
  have h3 : (Value.ref C == Value.type "tuple") = false := rfl
  simp only [h1, h2, h3, Bool.or_false, Bool.false_eq_true, if_false]
  refine wpAny_bind (PySem.W.owit_iter hF I.ok.mod.kin J hi.it hi.fn ?_)
  have e0 : Env0 X.prog X.w X.K X.mg X.base A1.in1 X.stack s (upd H S (.lst [])) := by
    have e := I.env0
    exact ⟨by rw [sb.fr]; exact e.frames, e.mod, e.bs, e.bsz, e.funs, e.frf, e.hok, e.bare⟩
  have hlI := FI.len _ _ _ _ hspI
  refine wpAny_call (codeAny_mono (codeAny_dead (FI.run A1.in1 X.stack _ _ ⟨[.ref a], []⟩ [.ref a] [.ref a] _ _ (sb.mono (by omega)).room e0 (by
    have := bI _ [.ref a] I.kIn (by simpa using hlI)
    simpa using this) (.cons rfl .nil) hspI)) fun r s' hq' => ?_)
  obtain ⟨hq', dead⟩ := hq'
  cases r with
  | error e => exact hq'.elim
  | ok f =>
    cases f with
    | next => exact False.elim hq'
    | brk => exact False.elim hq'
    | cont => exact False.elim hq'
    | ret u =>
      obtain ⟨v', H', os, bare, un, hok, rv', it', rfl, hn', eH'⟩ := id hq'
      obtain ⟨v, H3, I3, rv, it, rfl, hn, eH⟩ := I.after hq'
      have e1 : it' = it := by
        cases rv
        cases rv'
        rfl
      subst e1
      subst eH
      subst eH'
      cases rv
      have hi3 : upd (upd H S (.lst [])) it' (ItO l it' 0) it' = some (ItO l it' 0) := upd_same
      have eo := itO_get I3 hi3
      have young : s.heap.objs.size ≤ it' := Nat.le_of_not_lt fun lt => by
        cases e : s.heap.get? it' with
        | some o =>
          have := un.free it' o e hn (by simp)
          rw [hi3] at this; cases this
        | none =>
          have := (dead it' ⟨lt, e⟩).2
          rw [eo] at this; cases this
      have hT : s'.TypeIs (.ref it') "list_iterator" := ⟨_, eo, rfl⟩
      have si : S ≠ it' := fun z => by rw [← z, upd_same] at hn; cases hn
      have hni : H it' = none := by rw [upd_ne si.symm] at hn; exact hn
      have ha3 : upd (upd H S (.lst [])) it' (ItO l it' 0) a = some (.ins C dx fs) := by rw [upd_ne (ne_of_none ha2 hn)]; exact ha2
      unfold PySem.W.OwitIt
      refine wpAny_specialOf (name := Str.ofString "__next__") hT slot_listiter_next.lookup ?_
      refine wpAny_bind (wpAny_holding (len_hintO (P := fun H' => H' = upd (upd H S (.lst [])) it' (ItO l it' 0)) (sb.mono (by omega)) hc FL bL I3 ha3 (hspL it' hn) fun b H4 s4 I4 e4 => ?_))
      subst e4
      have eo4 := itO_get I4 hi3
      have hi4 := hi3
      unfold ItO at hi4
      have fp : FpOk X pins H it' := by
        have q := ItX.inv_fp I4 hi4 (Nat.le_trans I.sz young)
        rw [ItX.dropH_upd hn] at q
        exact ⟨hni, q.2⟩
      have I5 : Inv X pins σ (upd H S (.lst [])) s4 := by
        have q := ItX.inv_drop I4 hi4
        rwa [ItX.dropH_upd hn] at q
      have st : s4.heap.IsListIter it' l 0 := ⟨_, eo4, rfl, rfl⟩
      have hzz : zs.length ≤ sizeLine := by rw [sizeLine_eq]; omega
      refine wpAny_ite_split (fun _ => ?_) (fun _ => wpAny_pure ⟨plainId_quiet PySem.F.plain_extend_loop _, ext_list hA hl hzz hS hni si hdone _ 0 s4 rfl (Nat.zero_le _) I5 fp st⟩)
      obtain ⟨z, its, k, r3, hl3, e3⟩ := I5.lstM upd_same
      cases r3
      refine wpAny_bind (wpAny_rule ?_)
      refine wpAny_bind ?_
      show wpAny _ _ (updateSeq S (·.push .none) >>= fun _ => updateSeq S (·.pop)) _ _ _
      refine wpAny_bind (wpAny_updateSeq e3 rfl ?_)
      have I2 := I5.lset (f := (·.push Value.none)) (its' := [Value.none]) (ys := [.non]) (t' := s4.toks) upd_same e3 (by simp) (.cons rfl .nil) (by rw [List.length_singleton, sizeLine_eq]; decide)
      obtain ⟨z4, its4, k4, r4, hl4, e4⟩ := I2.lstM upd_same
      obtain ⟨u4, rfl, ru4⟩ := r4.one
      refine wpAny_updateSeq e4 rfl ?_ (by show 1 ≤ sizeLine; rw [sizeLine_eq]; decide) (by show 0 ≤ sizeLine + 1; exact Nat.zero_le _)
      have I6 := I2.lset (f := (·.pop)) (its := [u4]) (its' := []) (ys := []) (t' := s4.toks) upd_same e4 (by rfl) .nil (Nat.zero_le _)
      rw [upd_upd, upd_upd] at I6
      refine wpAny_pure ⟨plainId_quiet PySem.F.plain_extend_loop _, ext_list hA hl hzz hS hni si hdone _ 0 _ rfl (Nat.zero_le _) I6 fp (st.at fun o e => (Heap.get?_update_other _ _ si).trans ((Heap.get?_update_other _ _ si).trans e))⟩
def rListO (C : Addr) (spI spL : Sp) : List V → Hp → VK → Prop := fun xs H Q => ∃ a dx fs l zs, xs = [.ref a] ∧ H a = some (.ins C dx fs) ∧ H l = some (.lst zs) ∧ zs.length ≤ 1000 ∧ ∀ S, H S = none →
  spI [.ref a] (upd H S (.lst [])) (fun v H' => ∃ it, v = .ref it ∧ upd H S (.lst []) it = none ∧ H' = upd (upd H S (.lst [])) it (ItO l it 0)) (fun _ _ _ => False) ∧
  (∀ it, upd H S (.lst []) it = none → spL [.ref a] (upd (upd H S (.lst [])) it (ItO l it 0)) (fun v H' => ∃ n : Nat, v = .int (n : Int) ∧ n ≤ 1000 ∧ H' = upd (upd H S (.lst [])) it (ItO l it 0)) (fun _ _ _ => False)) ∧
  Q (.ref S) (upd H S (.lst zs))
theorem call_listO {kI kL : Nat} (hi : ItrC X.K C fi) (hc : LnC X.K C fl) (FI : FnOk X.prog X.w X.K X.mg X.base CX0 kI fi fdI psI spI) (FL : FnOk X.prog X.w X.K X.mg X.base CX0 kL fl fdL psL spL) (bI : Binds X.K fdI psI []) (bL : Binds X.K fdL psL [])
    (hr : Room (kI + kL + 3) X.A) (hcalm : X.calm = true := by rfl) : CallR X (.type "list") (rListO C spI spL) := by
  intro pins s σ H xs us Q I rv h
  obtain ⟨a, dx, fs, l, zs, rfl, ha, hl, hz, hq⟩ := h
  obtain ⟨u, rfl, ru⟩ := rv.one
  cases ru
  have sb : Sub X (kI + kL + 1) X.A.in1.in1 := (Sub.in1 (Sub.in1 (⟨hr, rfl⟩ : Sub X (kI + kL + 3) X.A)))
  refine callType_codes (Q₁ := fun obj s₁ => obj = .ref s.heap.objs.size ∧ s₁ = { s with heap := s.heap.push { cls := .type "list", data := .seq #[] } }) PySem.F.called_list (PySem.F.typeCall_list_1 _) PySem.F.entry_list_init
    (code_list_new _ ⟨rfl, rfl⟩) fun obj s₁ h₁ => ?_
  obtain ⟨rfl, rfl⟩ := h₁
  have hS : (s.heap.push { cls := .type "list", data := .seq #[] }).get? s.heap.objs.size = some { cls := .type "list", data := .seq #[] } := Heap.get?_push_size _ rfl
  refine ⟨⟨_, hS, rfl⟩, PySem.F.args_list_init_2 _ _, ?_⟩
  have fr : H s.heap.objs.size = none := I.hok.fresh (Nat.le_refl _)
  obtain ⟨hspI, hspL, hQ⟩ := hq _ fr
  have I1 : Inv X pins σ (upd H s.heap.objs.size (.lst [])) { s with heap := s.heap.push { cls := .type "list", data := .seq #[] } } := I.lnew (its := []) (t' := s.toks) .nil (Nat.zero_le _)
  show wpAny _ _ (do let old ← Builtin.List.listItems (.ref s.heap.objs.size); Builtin.List.listUpdate (.ref s.heap.objs.size) (fun _ => #[]); letGo old.toList.reverse; Builtin.List.listExtendWith (.ref s.heap.objs.size) (.ref a) .none) _ _ _
  refine wpAny_bind ?_
  unfold Builtin.List.listItems
  refine wpAny_bind (wpAny_seqItems hS rfl (wpAny_pure ?_))
  show wpAny _ _ (updateSeq s.heap.objs.size (fun _ => #[]) >>= fun _ => letGo (#[] : Array Value).toList.reverse >>= fun _ => Builtin.List.listExtendWith (.ref s.heap.objs.size) (.ref a) .none) _ _ _
  refine wpAny_bind (wpAny_updateSeq hS rfl ?_)
  have I2 := I1.lset (f := fun _ => #[]) (its := []) (its' := []) (ys := []) (t' := s.toks) upd_same hS rfl .nil (Nat.zero_le _)
  rw [upd_upd] at I2
  refine wpAny_bind (wpAny_letGo ?_)
  exact ext_own (A1 := X.A.in1) (Rs := wants (fun r s₂ => r = .none ∧ EP X pins σ Q (.ref s.heap.objs.size) s₂) X.xe) (I.ok.hd hcalm) sb hi hc FI FL bI bL I2 ha hl hz fr hspI hspL fun s' I' => ⟨rfl, .ref s.heap.objs.size, _, I', rfl, hQ⟩
end
end J
/-! ### C(e, ..) in a try's body, the __init__ of C may raise -/
namespace J
open PySem L2 PyProof.Rows
section
variable {X : Cx} {CX : CXT} {k : Nat} {f C : Addr} {fd : FuncData} {ps : List Str} {sp : Sp} {E : L2.St → XK} {x : Str} {p pos : Pos} {e : Expr} {es : List Expr} {t : TA}
theorem run_makeS {pins : List (Addr × Obj)} {σ : L2.St} {H : Hp} {s : Shared} {Q : VK} {us : List Value} {vs : List V} (M : Mk X.K C f) (F : FnOk X.prog X.w X.K X.mg X.base CX k f fd ps sp) (hr : Room (k + 1) X.A) (hb : Binds X.K fd ps [])
    (hx : PassesAt CX X σ (E σ)) (I : Inv X pins σ H s) (r : Vals vs us)
    (h : ∀ x dx, H x = none → H dx = none → dx ≠ x → sp (.ref x :: vs) (upd (upd H dx (.own x)) x (.ins C dx [])) (fun v H2 => v = .non ∧ Q (.ref x) H2) (E σ)) :
    wpAny (model X.prog X.w) X.A (call (.ref C) us) (EP X pins σ Q) X.xe s := by
  have hq := h (s.heap.objs.size + 1) s.heap.objs.size (I.hok.fresh (Nat.le_succ _)) (I.hok.fresh (Nat.le_refl _)) (Nat.ne_of_lt (Nat.lt_succ_self _))
  have I2 := Inv.made (C := C) I
  have r2 : Vals (V.ref (s.heap.objs.size + 1) :: vs) (Value.ref (s.heap.objs.size + 1) :: us) := .cons rfl r
  have hl : ((Value.ref (s.heap.objs.size + 1) :: us) ++ []).length = ps.length := by
    have e := r2.length
    rw [F.len _ _ _ _ hq] at e
    rw [List.append_nil]
    exact e.symm
  have hb2 := hb _ (Value.ref (s.heap.objs.size + 1) :: us) I2.kIn hl
  rw [List.append_nil] at hb2
  refine wpAny_call (make_map (f := f) I.kIn M.makes M.init (beq_iff_eq.mp M.fn) (codeAny_mono (F.run _ X.stack _ _ ⟨Value.ref (s.heap.objs.size + 1) :: us, []⟩ (Value.ref (s.heap.objs.size + 1) :: us) _ _ (E σ) (hr.make C us [])
    (I2.env0.make C us []) hb2 r2 hq) fun r s' hq' => ?_))
  cases r with
  | error e => exact hx pins _ _ e s' I2 hq'
  | ok fl =>
    cases fl with
    | ret u =>
      obtain ⟨v, H', I3, rv, ev, q3⟩ := I2.after hq'
      subst ev
      exact ⟨rv, ⟨V.ref (s.heap.objs.size + 1), H', I3, rfl, q3⟩⟩
    | next => exact False.elim hq'
    | brk => exact False.elim hq'
    | cont => exact False.elim hq'
def tMakeS (C : Addr) (sp : Sp) (E : L2.St → XK) (t : TA) : TE := fun σ H Q => t σ H fun vs H1 => ∀ x dx, H1 x = none → H1 dx = none → dx ≠ x → sp (.ref x :: vs) (upd (upd H1 dx (.own x)) x (.ins C dx [])) (fun v H2 => v = .non ∧ Q (.ref x) H2) (E σ)
theorem pe_makeS (M : Mk X.K C f) (F : FnOk X.prog X.w X.K X.mg X.base CX k f fd ps sp) (hr : Room (k + 1) X.A) (hg : Gl X x) (hm : X.mg x = some (.ref C)) (hb : Binds X.K fd ps []) (hx : ∀ σ, PassesAt CX X σ (E σ))
    (ha : PA X (e :: es) t) (hdb : (x == ("__debug__" : Str)) = false := by decide) (he : starEach (e :: es) X.env = (false, eval e X.env) :: starEach es X.env := by rfl) (hpl : (backTo pos (starEach es X.env)).any (·.1) = false := by rfl) :
    PE X (.Call (.Name x p) (e :: es) [] pos) (tMakeS C sp E t) := by
  refine ⟨fun pins s σ H Q I h => ?_⟩
  refine wpAny_Call_Name_kw (ld_glob I hg hm ?_ hdb)
  refine PySem.W.callWith_K (h₀ := X.base) I.ok.mod.kin M.kp (thn (ha.run pos pins s σ H _ I h) fun us s1 ⟨vs, H1, I1, r, q⟩ => ⟨I1.kIn, ?_⟩) he hpl
  exact run_makeS M F hr hb (hx σ) I1 r q
end
end J
/-! ### {k: v for x in a list} -/
namespace J
open PySem L2 PyProof.Rows
theorem dc_list {K : PySem.W.Frag} {a : Addr} {xs : List V} {g : TG} {tt : TT} {tk tv : TE} {vs : List Nat} {σ : L2.St} {H1 : Hp} {D : Addr} {Qd : Hp → Prop} (Pv : Nat → Hp → Prop) (h0 : Pv 0 (upd H1 D (.dK []))) (hl : ∀ i H, i ≤ xs.length → Pv i H → SqL K H a xs)
    (hs : ∀ i x H, xs[i]? = some x → Pv i H → g x (wipe σ vs) H fun σ2 H2 => wipe σ2 vs = wipe σ vs ∧ tt σ2 H2 fun b H3 =>
      if b = true then tk σ2 H3 fun y H4 => tv σ2 H4 fun z H5 => ∃ kvs k, y = kV k ∧ H5 D = some (.dK kvs) ∧ kvs.length < sizeLine ∧ Pv (i + 1) (upd H5 D (.dK (putK kvs k z))) else Pv (i + 1) H3) (hd : ∀ H, Pv xs.length H → Qd H) :
    ∃ W : Nat → Nat → Hp → Prop, (∃ m, W 0 m (upd H1 D (.dK []))) ∧ ∀ i m H, W i m H →
      ((Itl K a).stop i H ∧ Qd H) ∨ ((Itl K a).go i H ∧ ∃ Nx : Hp → Prop, (∀ H', Nx H' → ∃ m', m' < m ∧ W (i + 1) m' H') ∧ ∀ x H', (Itl K a).yld i H x H' → g x (wipe σ vs) H' fun σ2 H2 => wipe σ2 vs = wipe σ vs ∧ tt σ2 H2 fun b H3 =>
        if b = true then tk σ2 H3 fun y H4 => tv σ2 H4 fun z H5 => ∃ kvs k, y = kV k ∧ H5 D = some (.dK kvs) ∧ kvs.length < sizeLine ∧ Nx (upd H5 D (.dK (putK kvs k z))) else Nx H3) := by
  refine ⟨fun i m H => m = xs.length - i ∧ i ≤ xs.length ∧ Pv i H, ⟨xs.length, by simp, Nat.zero_le _, h0⟩, ?_⟩
  rintro i m H ⟨rfl, hi, p⟩
  have q := hl i H hi p
  by_cases hlt : i < xs.length
  · refine .inr ⟨⟨xs, xs[i], q, by simp [hlt]⟩, Pv (i + 1), fun H' p' => ⟨xs.length - (i + 1), by omega, rfl, hlt, p'⟩, fun x H' y => ?_⟩
    obtain ⟨e, y⟩ := y
    subst e
    exact hs i x _ (y xs q) p
  · exact .inl ⟨⟨xs, q, by omega⟩, hd _ (by rwa [show xs.length = i by omega])⟩
end J
/-! ### the value of an expression, locked from then on -/
namespace J
open PySem L2
def tLockV (t : TE) : TE := fun σ H Q => t σ H fun x H1 => ∃ d u, x = .ref d ∧ H1 d = some u ∧ Mut (some u) ∧ ∀ od, Q x (upd H1 d (.frz od u))
theorem pe_lockv {X : Cx} {e : Expr} {t : TE} (h : PE X e t) : PE X e (tLockV t) := by
  refine ⟨fun pins s σ H Q I hw => ?_⟩
  refine thn (h.run pins s σ _ _ I hw) fun v s1 ⟨x, H1, I1, r, d, u, ex, hd, mu, q⟩ => ?_
  obtain ⟨od, I2⟩ := I1.lock hd mu
  exact ⟨x, _, I2, r, q od⟩
end J

/-! ### dicts whose keys are None, numbers and texts -/
namespace J
open PySem PySem.Spec PyProof.Rows L2
def leafV : Leaf → V
  | .none => .non
  | .num i => .int i
  | .text x => .str x
theorem leafV_is {P : Program} {w : World} {k : Leaf} {u : Value} (r : RelV (leafV k) u) : (leafKind P w).is k u = true := by
  cases k with
  | none =>
    obtain rfl : u = Value.none := r
    rfl
  | num i =>
    obtain ⟨t, rfl⟩ : ∃ t, u = Value.int i t := r
    exact decide_eq_true rfl
  | text x =>
    obtain ⟨t, rfl⟩ : ∃ t, u = Value.str x t := r
    show (x == x) = true
    simp
/-- the dict at a -/
def NkO (P : Program) (w : World) (a : Addr) (kvs : List (Leaf × V)) : HO := .ext fun h => kvs.length ≤ sizeLine ∧ (a == sysModules) = false ∧ ∃ vs, KV kvs vs ∧ h.DictOf (leafKind P w) a vs
theorem nk_ok {P : Program} {w : World} {H : Hp} {h : Heap} {a : Addr} {kvs : List (Leaf × V)} (z : kvs.length ≤ sizeLine) (hd : (a == sysModules) = false) {vs : List (Leaf × Value)} (rel : KV kvs vs) (dd : h.DictOf (leafKind P w) a vs) : ObjOk P w H h a (NkO P w a kvs) := by
  refine ⟨⟨z, hd, vs, rel, dd⟩, ?_, fun h1 h2 p k => ?_⟩
  · obtain ⟨o, _, _, ho, _⟩ := dd; exact ⟨o, ho⟩
  · obtain ⟨z, hd, vs, rel, dd⟩ := p
    exact ⟨z, hd, vs, rel, dd.at k⟩
theorem nk_of {P : Program} {w : World} {H : Hp} {h : Heap} {a : Addr} {kvs : List (Leaf × V)} (ok : HOk P w H h) (e : H a = some (NkO P w a kvs)) : kvs.length ≤ sizeLine ∧ (a == sysModules) = false ∧ ∃ vs, KV kvs vs ∧ h.DictOf (leafKind P w) a vs := (ok a _ e).1
def tNGet (P : Program) (w : World) (td ty : TE) : TE := fun σ H Q => td σ H fun x H1 => ty σ H1 fun y H2 => ∃ a kvs k v, x = .ref a ∧ H2 a = some (NkO P w a kvs) ∧ y = leafV k ∧ valV kvs k = some v ∧ Q v H2
def tNIn (P : Program) (w : World) (ty td : TE) : TE := fun σ H Q => ty σ H fun y H1 => td σ H1 fun x H2 => ∃ a kvs k, x = .ref a ∧ H2 a = some (NkO P w a kvs) ∧ y = leafV k ∧ Q (.bl (valV kvs k).isSome) H2
def tNNotIn (P : Program) (w : World) (ty td : TE) : TE := fun σ H Q => ty σ H fun y H1 => td σ H1 fun x H2 => ∃ a kvs k, x = .ref a ∧ H2 a = some (NkO P w a kvs) ∧ y = leafV k ∧ Q (.bl (!(valV kvs k).isSome)) H2
def sNPut (P : Program) (w : World) (td ty tv : TE) : TS := fun D σ H => tv σ H fun v H1 => td σ H1 fun x H2 => ty σ H2 fun y H3 => ∃ a kvs k, x = .ref a ∧ H3 a = some (NkO P w a kvs) ∧ y = leafV k ∧ kvs.length < sizeLine ∧ D.nx σ (upd H3 a (NkO P w a (putK kvs k v)))
def tDNewN (P : Program) (w : World) : TE := fun _ H Q => ∀ p, H p = none → Q (.ref p) (upd H p (NkO P w p []))
section
variable {X : Cx} {o i e value : Expr} {pos pos' tpos : Pos} {td ty tv : TE}
theorem pe_nget (ho : PE X o td) (hi : PE X i ty) (hs : NoSl i) : PE X (.Subscript o i pos) (tNGet X.prog X.w td ty) := by
  refine ⟨fun pins s σ H Q I h => ?_⟩
  refine subD_of PySem.F.slot_dict_getitem.lookup hs (thn (ho.run pins s σ H _ I h) fun u s1 ⟨x, H1, I1, rx, q1⟩ => thn (hi.run pins s1 σ H1 _ I1 q1) fun iv s2 ⟨y, H2, I2, ry, a, kvs, k, v, ex, g, ey, l, q2⟩ => ?_)
  subst ex ey
  obtain rfl : u = Value.ref a := rx
  obtain ⟨z, hd, vs, rel, dd⟩ := nk_of I2.hok g
  obtain ⟨w', hw, rw'⟩ := RelO.some_of (v := v) (o := valueAt vs k) (by rw [← l]; exact rel.val k)
  exact ⟨dd.typeIs, wpAny_getItem_of (leafV_is ry) dd.mapOf hw ⟨v, H2, I2.tok _, rw', q2⟩⟩
theorem pc_nin (hi : PE X i ty) (ho : PE X o td) : PC X .In i o (tNIn X.prog X.w ty td) := by
  refine ⟨fun pins s σ H Q I h => ?_⟩
  refine thn (hi.run pins s σ H _ I h) fun iv s1 ⟨y, H1, I1, ry, q1⟩ => thn (ho.run pins s1 σ H1 _ I1 q1) fun u s2 ⟨x, H2, I2, rx, a, kvs, k, ex, g, ey, q2⟩ => ?_
  subst ex ey
  obtain rfl : u = Value.ref a := rx
  obtain ⟨z, hd, vs, rel, dd⟩ := nk_of I2.hok g
  refine wpAny_in_of (leafV_is ry) hd dd.mapOf ?_
  rw [← (rel.val k).isSome_eq]
  exact ⟨.bl _, H2, I2.tok _, rfl, q2⟩
theorem pc_nnotin (hi : PE X i ty) (ho : PE X o td) : PC X .NotIn i o (tNNotIn X.prog X.w ty td) := by
  refine ⟨fun pins s σ H Q I h => ?_⟩
  refine thn (hi.run pins s σ H _ I h) fun iv s1 ⟨y, H1, I1, ry, q1⟩ => thn (ho.run pins s1 σ H1 _ I1 q1) fun u s2 ⟨x, H2, I2, rx, a, kvs, k, ex, g, ey, q2⟩ => ?_
  subst ex ey
  obtain rfl : u = Value.ref a := rx
  obtain ⟨z, hd, vs, rel, dd⟩ := nk_of I2.hok g
  refine wpAny_notIn_of (leafV_is ry) hd dd.mapOf ?_
  rw [← (rel.val k).isSome_eq]
  exact ⟨.bl _, H2, I2.tok _, rfl, q2⟩
theorem ps_nput (ho : PE X o td) (hi : PE X i ty) (hv : PE X value tv) (hs : swapsWith value (some (.Subscript o i pos')) pos.line X.env = pure false) :
    PS X (.Assign [.Subscript o i pos'] value pos) (sNPut X.prog X.w td ty tv) := by
  refine ⟨fun pins s σ H D I h => ?_⟩
  refine wpAny_Assign_Subscript (thn (hv.run pins s σ H _ I h) fun r s1 ⟨v, H1, I1, rv, q1⟩ => thn (ho.run pins s1 σ H1 _ I1 q1) fun u s2 ⟨x, H2, I2, rx, q2⟩ => thn (hi.run pins s2 σ H2 _ I2 q2) fun iv s3 ⟨y, H3, I3, ry, a, kvs, k, ex, g, ey, ln, q3⟩ => ?_) hs
  subst ex ey
  obtain rfl : u = Value.ref a := rx
  obtain ⟨z, hd, vs, rel, dd⟩ := nk_of I3.hok g
  have hz : vs.length ≤ sizeLine := by rw [← rel.length]; exact z
  have hl : (putK kvs k v).length ≤ sizeLine := by have := length_putK kvs k v; omega
  refine wpAny_setItem_pairs (hsz := hz) (leafV_is ry) dd fun h' dd' hs => ?_
  have he : ∃ q, h'.get? a = some q := let ⟨q, _, _, hq, _⟩ := dd'; ⟨q, hq⟩
  exact ⟨σ, _, d_write I3 (by rw [g]; exact True.intro) hs he (nk_ok hl hd (rel.put k rv) dd'), q3⟩
theorem pe_dnewN : PE X (.Dict [] [] pos) (tDNewN X.prog X.w) := ⟨fun pins s σ H Q I h =>
  wpAny_Dict_empty ⟨.ref s.heap.objs.size, _, I.laid (a := s.heap.objs.size) (o := NkO X.prog X.w s.heap.objs.size []) (t' := s.toks) (fun _ _ q => Heap.get?_push_of_some _ q) (Nat.le_refl _) (nk_ok (Nat.zero_le _) (beq_eq_false_iff_ne.mpr (Ne.symm (Nat.ne_of_lt I.big))) .nil (Heap.DictOf.new s.heap)), rfl, h _ (I.hok.fresh (Nat.le_refl _))⟩⟩
end
theorem nkO_inj {P : Program} {w : World} {a : Addr} {k1 : List (Leaf × V)} {xs : List V} : NkO P w a k1 ≠ .lst xs := fun z => nomatch z
end J
namespace J
open PySem L2
/-- a test whose answer is known -/
theorem tt_at {t : TT} {σ : L2.St} {H : Hp} {Q : Bool → Hp → Prop} (b : Bool) (h : ∀ Qf : Bool → Hp → Prop, Qf b H → t σ H Qf) (q : Q b H) : t σ H Q := h Q q
theorem tt_sm {t : TT} {σ : L2.St} {H : Hp} {Q : Bool → Hp → Prop} (b : Bool) (h : ∀ Qf : Bool → Hp → Prop, (∀ H', Same H H' → Qf b H') → t σ H Qf) (q : ∀ H', Same H H' → Q b H') : t σ H Q := h Q q
def tTruK (K : PySem.W.Frag) (ta : TE) : TT := fun σ H Q => ta σ H fun x H' => ∃ k, TruV K x H' k ∧ Q k H'
/-- a test in a comprehension: its reading does not name the context -/
theorem pt_truthK {X : Cx} {K : PySem.W.Frag} {a : Expr} {ta : TE} (hK : X.K = K) (ha : PE X a ta) (he : ∀ whole, isTrue a X.env whole = (do let v ← whole; standAt a.pos; holding [v] (truthy v))) : PT X a (tTruK K ta) := by
  subst hK
  exact pt_truth ha he
end J

/-! ### the index of rules: a tree of entries -/
namespace J
open PySem L2
def lfV : V → Leaf
  | .str f => .text f
  | _ => .none
/-- the entries of a left side -/
def pre (t : Tm) : List Leaf := (syms t).map lfV
def pres (ts : List Tm) : List Leaf := (symss ts).map lfV
theorem preL_var (n : Int) : pre (.var n) = [.none] := rfl
theorem preL_app (f : Str) (ts : List Tm) : pre (.app f ts) = .text f :: pres ts := rfl
theorem pres_cons (t : Tm) (ts : List Tm) : pres (t :: ts) = pre t ++ pres ts := by
  show (syms t ++ symss ts).map lfV = _
  rw [List.map_append]; rfl
theorem preL_len (t : Tm) : (pre t).length = t.sz := by unfold pre; rw [List.length_map, syms_len]
/-- the place of a thing in a list -/
def ixg {α : Type} [DecidableEq α] (l : List α) (a : α) : Nat := l.findIdx fun u => decide (u = a)
section
variable {α : Type} [DecidableEq α] {l m : List α} {a b : α}
theorem ixg_lt (h : a ∈ l) : ixg l a < l.length := List.findIdx_lt_length.mpr ⟨a, h, decide_eq_true rfl⟩
theorem ixg_get (h : a ∈ l) : l[ixg l a]? = some a := by
  have hl := ixg_lt h
  have := List.findIdx_getElem (xs := l) (p := fun u => decide (u = a)) (w := hl)
  rw [List.getElem?_eq_getElem hl]
  exact congrArg some (of_decide_eq_true this)
theorem ixg_at {i : Nat} (nd : l.Nodup) (h : l[i]? = some a) : ixg l a = i := by
  have m := List.mem_of_getElem? h
  exact (List.getElem?_inj (ixg_lt m) nd).mp ((ixg_get m).trans h.symm)
theorem ixg_app (h : a ∈ l) : ixg (l ++ m) a = ixg l a := by
  unfold ixg
  rw [List.findIdx_append, if_pos]
  exact ixg_lt h
theorem ixg_new (h : a ∉ l) : ixg (l ++ [a]) a = l.length := by
  unfold ixg
  rw [List.findIdx_append, if_neg, List.findIdx_cons]
  · rw [decide_eq_true rfl]
    show 0 + l.length = l.length
    omega
  · rw [List.findIdx_lt_length]
    rintro ⟨x, hx, e⟩
    rw [of_decide_eq_true e] at hx
    exact h hx
end
/-- the paths of the branches -/
structure Trie (ps : List (List Leaf)) : Prop where
  zero : ps[0]? = some []
  nd : ps.Nodup
  cl : ∀ p k, p ++ [k] ∈ ps → p ∈ ps
theorem Trie.start : Trie [[]] := ⟨rfl, List.nodup_cons.mpr ⟨(nomatch ·), List.nodup_nil⟩, fun p k h => by
  have := List.mem_singleton.mp h
  cases p <;> cases this⟩
/-- what the dict of the branch at p tells -/
def BrOk (ps : List (List Leaf)) (p : List Leaf) (kvs : List (Leaf × V)) : Prop := ∀ k, valV kvs k = if p ++ [k] ∈ ps then some (.int ((ixg ps (p ++ [k]) : Nat) : Int)) else none
theorem snoc_inj {α : Type} {p q : List α} {a b : α} (h : p ++ [a] = q ++ [b]) : p = q ∧ a = b := by
  have h1 := congrArg List.dropLast h
  rw [List.dropLast_concat, List.dropLast_concat] at h1
  subst h1
  exact ⟨rfl, by simpa using h⟩
theorem Trie.more {ps : List (List Leaf)} {p : List Leaf} {k : Leaf} (h : Trie ps) (hp : p ∈ ps) (hn : p ++ [k] ∉ ps) : Trie (ps ++ [p ++ [k]]) ∧ (∀ q kvs, q ∈ ps → q ≠ p → BrOk ps q kvs → BrOk (ps ++ [p ++ [k]]) q kvs) ∧
    (∀ kvs, BrOk ps p kvs → BrOk (ps ++ [p ++ [k]]) p (putK kvs k (.int (ps.length : Int)))) ∧ BrOk (ps ++ [p ++ [k]]) (p ++ [k]) [] := by
  have hl : 0 < ps.length := by
    have := (List.getElem?_eq_some_iff.mp h.zero).1
    exact this
  refine ⟨⟨by rw [List.getElem?_append_left hl]; exact h.zero, ?_, fun q j hq => ?_⟩, fun q kvs hq ne b j => ?_, fun kvs b j => ?_, fun j => ?_⟩
  · refine List.nodup_append.mpr ⟨h.nd, (by simp), fun a ha b hb e => ?_⟩
    rw [List.mem_singleton] at hb
    exact hn (by rw [← hb, ← e]; exact ha)
  · rcases List.mem_append.mp hq with hq | hq
    · exact List.mem_append_left _ (h.cl q j hq)
    · obtain ⟨e, _⟩ := snoc_inj (List.mem_singleton.mp hq)
      rw [e]; exact List.mem_append_left _ hp
  · rw [b j]
    by_cases m : q ++ [j] ∈ ps
    · rw [if_pos m, if_pos (List.mem_append_left _ m), ixg_app m]
    · rw [if_neg m, if_neg fun z => ?_]
      rcases List.mem_append.mp z with z | z
      · exact m z
      · exact ne (snoc_inj (List.mem_singleton.mp z)).1
  · rw [valV_put, b j]
    by_cases e : j = k
    · subst e
      rw [if_pos rfl, if_pos (List.mem_append_right _ (List.mem_singleton.mpr rfl)), ixg_new hn]
    · rw [if_neg e]
      by_cases m : p ++ [j] ∈ ps
      · rw [if_pos m, if_pos (List.mem_append_left _ m), ixg_app m]
      · rw [if_neg m, if_neg fun z => ?_]
        rcases List.mem_append.mp z with z | z
        · exact m z
        · exact e (snoc_inj (List.mem_singleton.mp z)).2
  · rw [if_neg fun z => ?_]; · rfl
    rcases List.mem_append.mp z with z | z
    · exact hn (h.cl _ _ z)
    · have := (snoc_inj (List.mem_singleton.mp z)).1
      have := congrArg List.length this
      rw [List.length_append] at this
      simp at this
theorem Trie.pref {ps : List (List Leaf)} (h : Trie ps) : ∀ (s p : List Leaf), p ++ s ∈ ps → p ∈ ps
  | [], p, hp => by rw [List.append_nil] at hp; exact hp
  | a :: s, p, hp => h.cl p a (Trie.pref h s (p ++ [a]) (by rw [List.append_assoc]; exact hp))
/-- the numbers of the left sides of which P holds -/
def numsP (P : Tm → Bool) (ls : List Tm) : List Int := ((List.range ls.length).filter fun i => match ls[i]? with | some l => P l | none => false).map fun i : Nat => (i : Int)
theorem numsP_mem {P : Tm → Bool} {ls : List Tm} {n : Int} : n ∈ numsP P ls ↔ ∃ (i : Nat) (l : Tm), n = (i : Int) ∧ ls[i]? = some l ∧ P l = true := by
  unfold numsP
  rw [List.mem_map]
  constructor
  · rintro ⟨i, hi, rfl⟩
    obtain ⟨_, h⟩ := List.mem_filter.mp hi
    cases e : ls[i]? with
    | none => rw [e] at h; cases h
    | some l => rw [e] at h; exact ⟨i, l, rfl, e, h⟩
  · rintro ⟨i, l, rfl, e, h⟩
    refine ⟨i, List.mem_filter.mpr ⟨List.mem_range.mpr (List.getElem?_eq_some_iff.mp e).1, ?_⟩, rfl⟩
    rw [e]; exact h
theorem numsP_asc (P : Tm → Bool) (ls : List Tm) : (numsP P ls).Pairwise (· < ·) := by
  unfold numsP
  refine List.Pairwise.map _ (fun a b h => ?_) (List.Pairwise.filter _ (List.pairwise_lt_range))
  exact Int.ofNat_lt.mpr h
theorem numsP_len (P : Tm → Bool) (ls : List Tm) : (numsP P ls).length ≤ ls.length := by
  unfold numsP
  rw [List.length_map]
  exact Nat.le_trans (List.length_filter_le _ _) (Nat.le_of_eq List.length_range)
theorem numsP_snoc (P : Tm → Bool) (ls : List Tm) (l : Tm) : numsP P (ls ++ [l]) = numsP P ls ++ (if P l then [(ls.length : Int)] else []) := by
  unfold numsP
  rw [List.length_append, List.length_singleton, List.range_succ, List.filter_append, List.map_append]
  congr 1
  · refine congrArg (List.map _) (List.filter_congr fun i hi => ?_)
    rw [List.getElem?_append_left (List.mem_range.mp hi)]
  · rw [List.filter_cons]
    rw [List.getElem?_append_right (Nat.le_refl _), Nat.sub_self]
    show (if P l = true then _ else _ : List Nat).map _ = _
    cases P l <;> rfl
theorem asc_nodup {l : List Int} (h : l.Pairwise (· < ·)) : l.Nodup := h.imp fun h e => by omega
theorem numsP_congr {P P' : Tm → Bool} {ls : List Tm} (h : ∀ l ∈ ls, P l = P' l) : numsP P ls = numsP P' ls := by
  unfold numsP
  refine congrArg (List.map _) (List.filter_congr fun i _ => ?_)
  cases e : ls[i]? with
  | none => rfl
  | some l => exact h l (List.mem_of_getElem? e)
theorem numsP_split {P P1 P2 : Tm → Bool} {ls : List Tm} (h : ∀ l ∈ ls, P l = (P1 l || P2 l)) (d : ∀ l ∈ ls, ¬ (P1 l = true ∧ P2 l = true)) : (numsP P ls).Perm (numsP P1 ls ++ numsP P2 ls) := by
  refine (List.perm_ext_iff_of_nodup (asc_nodup (numsP_asc _ _)) ?_).mpr fun n => ?_
  · refine List.nodup_append.mpr ⟨asc_nodup (numsP_asc _ _), asc_nodup (numsP_asc _ _), fun a ha b hb e => ?_⟩
    subst e
    obtain ⟨i, l, e1, e2, e3⟩ := numsP_mem.mp ha
    obtain ⟨j, l', f1, f2, f3⟩ := numsP_mem.mp hb
    have : i = j := by omega
    subst this
    rw [e2] at f2
    cases f2
    exact d l (List.mem_of_getElem? e2) ⟨e3, f3⟩
  · rw [List.mem_append, numsP_mem, numsP_mem, numsP_mem]
    constructor
    · rintro ⟨i, l, e1, e2, e3⟩
      rw [h l (List.mem_of_getElem? e2), Bool.or_eq_true] at e3
      exact e3.elim (fun z => .inl ⟨i, l, e1, e2, z⟩) fun z => .inr ⟨i, l, e1, e2, z⟩
    · rintro (⟨i, l, e1, e2, e3⟩ | ⟨i, l, e1, e2, e3⟩)
      · exact ⟨i, l, e1, e2, by rw [h l (List.mem_of_getElem? e2), e3]; rfl⟩
      · exact ⟨i, l, e1, e2, by rw [h l (List.mem_of_getElem? e2), e3, Bool.or_true]⟩
/-- the entries s fit the terms -/
def gz : List Leaf → List Tm → Bool
  | [], [] => true
  | .none :: s, _ :: ts => gz s ts
  | .text f :: s, .app g us :: ts => decide (f = g) && gz s (us ++ ts)
  | _, _ => false
/-- the left side l is told at the path p and the chain ts -/
def candB (p : List Leaf) (ts : List Tm) (l : Tm) : Bool := decide (pre l = p ++ (pre l).drop p.length) && gz ((pre l).drop p.length) ts
theorem candB_iff {p : List Leaf} {ts : List Tm} {l : Tm} : candB p ts l = true ↔ ∃ s, pre l = p ++ s ∧ gz s ts = true := by
  unfold candB
  rw [Bool.and_eq_true, decide_eq_true_iff]
  constructor
  · rintro ⟨a, b⟩; exact ⟨_, a, b⟩
  · rintro ⟨s, e, g⟩
    have : (pre l).drop p.length = s := by rw [e, List.drop_left' rfl]
    rw [this]; exact ⟨e, g⟩
theorem candB_end {p : List Leaf} {l : Tm} : candB p [] l = decide (pre l = p) := by
  refine Bool.eq_iff_iff.mpr ?_
  rw [candB_iff, decide_eq_true_iff]
  constructor
  · rintro ⟨s, e, g⟩
    cases s with
    | nil => rw [e, List.append_nil]
    | cons a s => cases a <;> cases g
  · intro e; exact ⟨[], by rw [e, List.append_nil], rfl⟩
def textB (p : List Leaf) (t : Tm) (ts : List Tm) (l : Tm) : Bool := match t with
  | .app f us => candB (p ++ [.text f]) (us ++ ts) l
  | .var _ => false
theorem candB_step (p : List Leaf) (t : Tm) (ts : List Tm) (l : Tm) : candB p (t :: ts) l = (candB (p ++ [.none]) ts l || textB p t ts l) := by
  refine Bool.eq_iff_iff.mpr ?_
  rw [Bool.or_eq_true, candB_iff, candB_iff]
  constructor
  · rintro ⟨s, e, g⟩
    cases s with
    | nil => cases g
    | cons a s =>
      cases a with
      | none => exact .inl ⟨s, by rw [e, List.append_assoc]; rfl, g⟩
      | num i => cases g
      | text f =>
        cases t with
        | var n => cases g
        | app f2 us =>
          have g : (decide (f = f2) && gz s (us ++ ts)) = true := g
          rw [Bool.and_eq_true] at g
          obtain ⟨g1, g2⟩ := g
          have := of_decide_eq_true g1
          subst this
          exact .inr (candB_iff.mpr ⟨s, by rw [e, List.append_assoc]; rfl, g2⟩)
  · rintro (⟨s, e, g⟩ | h)
    · exact ⟨.none :: s, by rw [e, List.append_assoc]; rfl, g⟩
    · cases t with
      | var n => cases h
      | app f us =>
        obtain ⟨s, e, g⟩ := candB_iff.mp h
        refine ⟨.text f :: s, by rw [e, List.append_assoc]; rfl, ?_⟩
        show (decide (f = f) && gz s (us ++ ts)) = true
        rw [decide_eq_true rfl]; exact g
theorem candB_apart (p : List Leaf) (t : Tm) (ts : List Tm) (l : Tm) : ¬ (candB (p ++ [.none]) ts l = true ∧ textB p t ts l = true) := by
  rintro ⟨a, b⟩
  cases t with
  | var n => cases b
  | app f us =>
    obtain ⟨s, e, _⟩ := candB_iff.mp a
    obtain ⟨s', e', _⟩ := candB_iff.mp b
    rw [e, List.append_assoc, List.append_assoc] at e'
    have := List.append_cancel_left e'
    cases this
theorem candB_out {ps : List (List Leaf)} (h : Trie ps) {q : List Leaf} {ts : List Tm} {l : Tm} (hl : pre l ∈ ps) (hq : q ∉ ps) : candB q ts l = false := by
  cases e : candB q ts l with
  | false => rfl
  | true =>
    obtain ⟨s, e1, _⟩ := candB_iff.mp e
    rw [e1] at hl
    exact absurd (h.pref s q hl) hq
mutual
/-- p fits t, but for the variables -/
def gen : Tm → Tm → Bool
  | .var _, _ => true
  | .app f ps, .app g us => decide (f = g) && decide (ps.length = us.length) && gens ps us
  | .app _ _, .var _ => false
def gens : List Tm → List Tm → Bool
  | p :: ps, u :: us => gen p u && gens ps us
  | _, _ => true
end
mutual
theorem gz_pre {fs : List Str} {B C : Int} (nd : fs.Nodup) : ∀ (p t : Tm) (s : List Leaf) (ts : List Tm), p.wf fs B → t.wf fs C → gz (pre p ++ s) (t :: ts) = (gen p t && gz s ts)
  | .var n, t, s, ts, _, _ => by
    show gz s ts = (gen (.var n) t && gz s ts)
    have : gen (.var n) t = true := by cases t <;> rfl
    rw [this, Bool.true_and]
  | .app f ps, .var n, s, ts, _, _ => by
    rw [preL_app]
    rfl
  | .app f ps, .app g us, s, ts, wp, wt => by
    rw [preL_app]
    show (decide (f = g) && gz (pres ps ++ s) (us ++ ts)) = (decide (f = g) && decide (ps.length = us.length) && gens ps us && gz s ts)
    by_cases e : f = g
    · obtain ⟨⟨k, k1, k2⟩, w1⟩ := wp
      obtain ⟨⟨j, j1, j2⟩, w2⟩ := wt
      subst e
      have hjk : j = k := (List.getElem?_inj (List.getElem?_eq_some_iff.mp j1).1 nd).mp (j1.trans k1.symm)
      subst hjk
      have hl : ps.length = us.length := by rw [k2, j2]
      rw [decide_eq_true rfl, decide_eq_true hl, Bool.true_and, Bool.true_and, Bool.true_and]
      exact gz_pres nd ps us s ts hl w1 w2
    · rw [decide_eq_false e]; rfl
theorem gz_pres {fs : List Str} {B C : Int} (nd : fs.Nodup) : ∀ (ps us : List Tm) (s : List Leaf) (ts : List Tm), ps.length = us.length → Tm.wfs fs B ps → Tm.wfs fs C us → gz (pres ps ++ s) (us ++ ts) = (gens ps us && gz s ts)
  | [], [], s, ts, _, _, _ => rfl
  | [], _ :: _, _, _, h, _, _ => by cases h
  | _ :: _, [], _, _, h, _, _ => by cases h
  | p :: ps, u :: us, s, ts, h, wp, wu => by
    rw [pres_cons, List.append_assoc]
    show gz (pre p ++ (pres ps ++ s)) (u :: (us ++ ts)) = (gen p u && gens ps us && gz s ts)
    rw [gz_pre nd p u _ _ wp.1 wu.1, gz_pres nd ps us s ts (Nat.succ.inj h) wp.2 wu.2, Bool.and_assoc]
end
theorem cand_gen {fs : List Str} {B C : Int} (nd : fs.Nodup) {ls : List Tm} {t : Tm} (wl : ∀ l ∈ ls, l.wf fs B) (wt : t.wf fs C) : numsP (candB [] [t]) ls = numsP (fun l => gen l t) ls := by
  refine numsP_congr fun l hl => Bool.eq_iff_iff.mpr ?_
  rw [candB_iff]
  have h := gz_pre nd l t [] [] (wl l hl) wt
  rw [List.append_nil] at h
  have h2 : gz [] [] = true := rfl
  rw [h2, Bool.and_true] at h
  constructor
  · rintro ⟨s, e, g⟩
    have e : pre l = s := e
    rw [← e, h] at g; exact g
  · intro g; exact ⟨pre l, rfl, by rw [h]; exact g⟩
/-- a chain of arguments: nested pairs, None at the end -/
def ChIn (H : Hp) : List Tm → V → Prop
  | [], v => v = .non
  | t :: ts, v => ∃ a tv rv, v = .ref a ∧ H a = some (.tup [tv, rv]) ∧ TmIn H t tv ∧ ChIn H ts rv
theorem ChIn.tu {H H' : Hp} (t : Tu H H') : ∀ {ts : List Tm} {v : V}, ChIn H ts v → ChIn H' ts v
  | [], _, h => h
  | _ :: _, _, ⟨a, tv, rv, e, h1, h2, h3⟩ => ⟨a, tv, rv, e, t _ _ h1, h2.tu t, ChIn.tu t h3⟩
/-! the object -/
structure RiA where
  p : Addr
  dx : Addr
  b : Addr
  e : Addr
def RiA.fs (a : RiA) : List (Str × V) := [("_branches", .ref a.b), ("_ends", .ref a.e)]
structure RiAt (C : Addr) (P : Program) (w : World) (H : Hp) (a : RiA) (ls : List Tm) (ps : List (List Leaf)) : Prop where
  ob : H a.p = some (.ins C a.dx a.fs)
  hb : ∃ bs : List Addr, H a.b = some (.lst (bs.map V.ref)) ∧ bs.length = ps.length ∧ bs.Nodup ∧ ∀ (j : Nat) p d, ps[j]? = some p → bs[j]? = some d → ∃ kvs, H d = some (NkO P w d kvs) ∧ BrOk ps p kvs ∧ kvs.length ≤ ps.length
  he : ∃ es : List Addr, H a.e = some (.lst (es.map V.ref)) ∧ es.length = ps.length ∧ es.Nodup ∧ a.b ∉ es ∧ a.e ∉ es ∧ ∀ (j : Nat) p d, ps[j]? = some p → es[j]? = some d → H d = some (.lst ((numsP (fun l => decide (pre l = p)) ls).map V.int))
  ne : a.b ≠ a.e
  tr : Trie ps
  all : ∀ l ∈ ls, pre l ∈ ps
theorem RiAt.same {C : Addr} {P : Program} {w : World} {H H' : Hp} {a : RiA} {ls : List Tm} {ps : List (List Leaf)} (h : RiAt C P w H a ls ps) (s : Same H H') : RiAt C P w H' a ls ps := by
  obtain ⟨bs, b1, b2, b3, b4⟩ := h.hb
  obtain ⟨es, e1, e2, e3, e4, e5, e6⟩ := h.he
  exact ⟨s _ _ h.ob, ⟨bs, s _ _ b1, b2, b3, fun j p d x y => let ⟨kvs, z1, z2, z3⟩ := b4 j p d x y; ⟨kvs, s _ _ z1, z2, z3⟩⟩, ⟨es, s _ _ e1, e2, e3, e4, e5, fun j p d x y => s _ _ (e6 j p d x y)⟩, h.ne, h.tr, h.all⟩
theorem ria_branches (a : RiA) : a.fs.lookup ("_branches" : Str) = some (.ref a.b) := rfl
theorem ria_ends (a : RiA) : a.fs.lookup ("_ends" : Str) = some (.ref a.e) := rfl
theorem ria_no (a : RiA) {m : Str} (h1 : (m == ("_branches" : Str)) = false) (h2 : (m == ("_ends" : Str)) = false) : a.fs.lookup m = none := by
  unfold RiA.fs
  simp only [List.lookup, h1, h2]
end J
namespace J
open PySem L2
/-- what is waited for: a branch and a chain -/
def WaIn (H : Hp) (v : V) (x : Nat × List Tm) : Prop := ∃ a cv, v = .ref a ∧ H a = some (.tup [.int (x.1 : Int), cv]) ∧ ChIn H x.2 cv
theorem WaIn.tu {H H' : Hp} {v : V} {x : Nat × List Tm} (h : WaIn H v x) (t : Tu H H') : WaIn H' v x := by
  obtain ⟨a, cv, e, h1, h2⟩ := h
  exact ⟨a, cv, e, t _ _ h1, h2.tu t⟩
def WasIn (H : Hp) (vs : List V) (xs : List (Nat × List Tm)) : Prop := vs.length = xs.length ∧ ∀ (i : Nat) v x, vs[i]? = some v → xs[i]? = some x → WaIn H v x
theorem WasIn.tu {H H' : Hp} {vs : List V} {xs : List (Nat × List Tm)} (h : WasIn H vs xs) (t : Tu H H') : WasIn H' vs xs := ⟨h.1, fun i v x a b => (h.2 i v x a b).tu t⟩
theorem WasIn.snoc {H : Hp} {vs : List V} {xs : List (Nat × List Tm)} {v : V} {x : Nat × List Tm} (h : WasIn H vs xs) (g : WaIn H v x) : WasIn H (vs ++ [v]) (xs ++ [x]) := by
  refine ⟨by rw [List.length_append, List.length_append, h.1]; rfl, fun i w y a b => ?_⟩
  by_cases c : i < vs.length
  · rw [List.getElem?_append_left c] at a
    rw [List.getElem?_append_left (by rw [← h.1]; exact c)] at b
    exact h.2 i w y a b
  · rw [List.getElem?_append_right (by omega)] at a
    rw [List.getElem?_append_right (by rw [← h.1]; omega), ← h.1] at b
    have hi := (List.getElem?_eq_some_iff.mp a).1
    have e0 : i - vs.length = 0 := by
      have : i - vs.length < 1 := hi
      omega
    rw [e0] at a b
    cases a; cases b
    exact g
theorem WasIn.pop {H : Hp} {ws : List V} {xs : List (Nat × List Tm)} (h : WasIn H ws xs) (ne : ws ≠ []) : ∃ ws' w xs' x, ws = ws' ++ [w] ∧ xs = xs' ++ [x] ∧ WaIn H w x ∧ WasIn H ws' xs' := by
  rcases List.eq_nil_or_concat ws with e | ⟨ws', w, e⟩
  · exact absurd e ne
  rw [List.concat_eq_append] at e
  subst e
  have hl := h.1
  rw [List.length_append, List.length_singleton] at hl
  rcases List.eq_nil_or_concat xs with e | ⟨xs', x, e⟩
  · rw [e] at hl; cases hl
  rw [List.concat_eq_append] at e
  subst e
  rw [List.length_append, List.length_singleton] at hl
  have hl : ws'.length = xs'.length := by omega
  refine ⟨ws', w, xs', x, rfl, rfl, h.2 ws'.length w x (by rw [List.getElem?_append_right (Nat.le_refl _), Nat.sub_self]; rfl) (by rw [hl, List.getElem?_append_right (Nat.le_refl _), Nat.sub_self]; rfl), hl, fun i v y a b => h.2 i v y ?_ ?_⟩
  · rw [List.getElem?_append_left (List.getElem?_eq_some_iff.mp a).1]; exact a
  · rw [List.getElem?_append_left (List.getElem?_eq_some_iff.mp b).1]; exact b
/-- what the entries of a stack tell -/
def wacs (ps : List (List Leaf)) (ls : List Tm) (xs : List (Nat × List Tm)) : List Int := xs.flatMap fun x => numsP (candB (ps.getD x.1 []) x.2) ls
theorem wacs_snoc (ps : List (List Leaf)) (ls : List Tm) (xs : List (Nat × List Tm)) (x : Nat × List Tm) : wacs ps ls (xs ++ [x]) = wacs ps ls xs ++ numsP (candB (ps.getD x.1 []) x.2) ls := by
  unfold wacs
  rw [List.flatMap_append]
  show _ ++ (_ ++ []) = _
  rw [List.append_nil]
def wawt (xs : List (Nat × List Tm)) : Nat := (xs.map fun x => 3 ^ Tm.szs x.2).sum
theorem wawt_snoc (xs : List (Nat × List Tm)) (x : Nat × List Tm) : wawt (xs ++ [x]) = wawt xs + 3 ^ Tm.szs x.2 := by
  unfold wawt
  rw [List.map_append, List.sum_append]
  show _ + (_ + 0) = _
  rw [Nat.add_zero]
theorem getD_of {ps : List (List Leaf)} {j : Nat} {p : List Leaf} (h : ps[j]? = some p) : ps.getD j [] = p := by rw [List.getD_eq_getElem?_getD, h]; rfl
theorem sort_eq {l m : List Int} (p : l.Perm m) (hl : l.Pairwise (· ≤ ·)) (hm : m.Pairwise (· < ·)) : l = m := by
  have nd : l.Nodup := p.nodup_iff.mpr (asc_nodup hm)
  have hl2 : l.Pairwise (· < ·) := hl.imp₂ (fun a b hle hne => by omega) nd
  exact asc_ext hl2 hm fun n => p.mem_iff
end J
namespace J
open PySem L2
/-! the region of an index, and what may change in it -/
def RgI (H : Hp) (a : RiA) (b : Addr) : Prop := b = a.b ∨ b = a.e ∨ (∃ bs, H a.b = some (.lst bs) ∧ V.ref b ∈ bs) ∨ ∃ es, H a.e = some (.lst es) ∧ V.ref b ∈ es
structure FrI (a : RiA) (H H' : Hp) : Prop where
  fr : ∀ b o, H b = some o → ¬ RgI H a b → H' b = some o
  rg : ∀ b, RgI H' a b → RgI H a b ∨ H b = none
  kn : ∀ b, H b ≠ none → H' b ≠ none
theorem FrI.refl (a : RiA) (H : Hp) : FrI a H H := ⟨fun _ _ h _ => h, fun _ h => .inl h, fun _ h => h⟩
theorem FrI.trans {a : RiA} {H H1 H2 : Hp} (x : FrI a H H1) (y : FrI a H1 H2) : FrI a H H2 := by
  refine ⟨fun b o h n => y.fr b o (x.fr b o h n) fun r => ?_, fun b h => ?_, fun b h => y.kn b (x.kn b h)⟩
  · rcases x.rg b r with z | z
    · exact n z
    · rw [h] at z; cases z
  · rcases y.rg b h with z | z
    · exact x.rg b z
    · right
      cases e : H b with
      | none => rfl
      | some o => exact absurd z (x.kn b (by rw [e]; exact fun w => nomatch w))
theorem FrI.same {a : RiA} {H H' : Hp} (s : Same H H') (h1 : ∃ x, H a.b = some x) (h2 : ∃ x, H a.e = some x) : FrI a H H' := by
  obtain ⟨x, h1⟩ := h1
  obtain ⟨y, h2⟩ := h2
  refine ⟨fun b o h _ => s b o h, fun b h => .inl ?_, fun b h => ?_⟩
  · rcases h with h | h | ⟨bs, e, m⟩ | ⟨es, e, m⟩
    · exact .inl h
    · exact .inr (.inl h)
    · rw [s _ _ h1] at e; exact .inr (.inr (.inl ⟨bs, by rw [h1]; exact e, m⟩))
    · rw [s _ _ h2] at e; exact .inr (.inr (.inr ⟨es, by rw [h2]; exact e, m⟩))
  · cases e : H b with
    | none => exact absurd e h
    | some o => rw [s b o e]; exact fun w => nomatch w
theorem RiAt.kind {C : Addr} {P : Program} {w : World} {H : Hp} {a : RiA} {ls : List Tm} {ps : List (List Leaf)} (h : RiAt C P w H a ls ps) {b : Addr} (r : RgI H a b) : (∃ l, H b = some (.lst l)) ∨ ∃ kvs, H b = some (NkO P w b kvs) := by
  obtain ⟨bs, b1, b2, b3, b4⟩ := h.hb
  obtain ⟨es, e1, e2, e3, _, _, e6⟩ := h.he
  rcases r with rfl | rfl | ⟨us, e, m⟩ | ⟨us, e, m⟩
  · exact .inl ⟨_, b1⟩
  · exact .inl ⟨_, e1⟩
  · rw [b1] at e; cases e
    obtain ⟨d, hd, e⟩ := List.mem_map.mp m
    injection e with e
    subst e
    obtain ⟨j, hj⟩ := List.mem_iff_getElem?.mp hd
    have hjl := (List.getElem?_eq_some_iff.mp hj).1
    obtain ⟨kvs, z1, _⟩ := b4 j _ d (List.getElem?_eq_getElem (by rw [← b2]; exact hjl)) hj
    exact .inr ⟨kvs, z1⟩
  · rw [e1] at e; cases e
    obtain ⟨d, hd, e⟩ := List.mem_map.mp m
    injection e with e
    subst e
    obtain ⟨j, hj⟩ := List.mem_iff_getElem?.mp hd
    have hjl := (List.getElem?_eq_some_iff.mp hj).1
    exact .inl ⟨_, e6 j _ d (List.getElem?_eq_getElem (by rw [← e2]; exact hjl)) hj⟩
theorem RiAt.notup {C : Addr} {P : Program} {w : World} {H : Hp} {a : RiA} {ls : List Tm} {ps : List (List Leaf)} (h : RiAt C P w H a ls ps) {b : Addr} {vs : List V} (e : H b = some (.tup vs)) : ¬ RgI H a b := fun r => by
  rcases h.kind r with ⟨l, z⟩ | ⟨kvs, z⟩
  · rw [e] at z; cases z
  · rw [e] at z; cases z
theorem RiAt.noins {C : Addr} {P : Program} {w : World} {H : Hp} {a : RiA} {ls : List Tm} {ps : List (List Leaf)} (h : RiAt C P w H a ls ps) {b c dx : Addr} {vs : List (Str × V)} (e : H b = some (.ins c dx vs)) : ¬ RgI H a b := fun r => by
  rcases h.kind r with ⟨l, z⟩ | ⟨kvs, z⟩
  · rw [e] at z; cases z
  · rw [e] at z; cases z
theorem RiAt.known {C : Addr} {P : Program} {w : World} {H : Hp} {a : RiA} {ls : List Tm} {ps : List (List Leaf)} (h : RiAt C P w H a ls ps) {b : Addr} (e : H b = none) : ¬ RgI H a b := fun r => by
  rcases h.kind r with ⟨l, z⟩ | ⟨kvs, z⟩
  · rw [e] at z; cases z
  · rw [e] at z; cases z
theorem RiAt.tu {C : Addr} {P : Program} {w : World} {H H' : Hp} {a : RiA} {ls : List Tm} {ps : List (List Leaf)} (h : RiAt C P w H a ls ps) (f : FrI a H H') : Tu H H' := fun b vs e => f.fr b _ e (h.notup e)
/-- nothing of the index is changed -/
theorem RiAt.but {C : Addr} {P : Program} {w : World} {H H' : Hp} {a : RiA} {ls : List Tm} {ps : List (List Leaf)} (h : RiAt C P w H a ls ps) (hp : H' a.p = H a.p) (f : ∀ b, RgI H a b → H' b = H b) : RiAt C P w H' a ls ps := by
  obtain ⟨bs, b1, b2, b3, b4⟩ := h.hb
  obtain ⟨es, e1, e2, e3, e4, e5, e6⟩ := h.he
  refine ⟨hp.trans h.ob, ⟨bs, (f _ (.inl rfl)).trans b1, b2, b3, fun j p d x y => ?_⟩, ⟨es, (f _ (.inr (.inl rfl))).trans e1, e2, e3, e4, e5, fun j p d x y => ?_⟩, h.ne, h.tr, h.all⟩
  · obtain ⟨kvs, z1, z2, z3⟩ := b4 j p d x y
    exact ⟨kvs, (f d (.inr (.inr (.inl ⟨_, b1, List.mem_map.mpr ⟨d, List.mem_of_getElem? y, rfl⟩⟩)))).trans z1, z2, z3⟩
  · exact (f d (.inr (.inr (.inr ⟨_, e1, List.mem_map.mpr ⟨d, List.mem_of_getElem? y, rfl⟩⟩)))).trans (e6 j p d x y)
theorem ria_f2 (a b : V) : putF ("_ends" : Str) b [(("_branches" : Str), a)] = [(("_branches" : Str), a), (("_ends" : Str), b)] := by rw [sg_ne (by decide +kernel)]; rfl
theorem map_ref_inj {l m : List Addr} (h : l.map V.ref = m.map V.ref) : l = m := (List.map_inj_right fun _ _ e => by injection e).mp h
/-- one more left side -/
theorem RiAt.add {C : Addr} {P : Program} {w : World} {H H' : Hp} {a : RiA} {ls : List Tm} {ps : List (List Leaf)} (h : RiAt C P w H a ls ps) {l : Tm} {e : Addr} {es : List Addr} (hes : H a.e = some (.lst (es.map V.ref))) (he : es[ixg ps (pre l)]? = some e) (m : pre l ∈ ps) (bt : But e H H')
    (hn : H' e = some (.lst ((numsP (fun x => decide (pre x = pre l)) ls).map V.int ++ [.int (ls.length : Int)]))) : RiAt C P w H' a (ls ++ [l]) ps ∧ FrI a H H' := by
  obtain ⟨bs, b1, b2, b3, b4⟩ := h.hb
  obtain ⟨es', e1, e2, e3, e4, e5, e6⟩ := h.he
  rw [hes] at e1
  have := map_ref_inj (show es.map V.ref = es'.map V.ref by injection e1 with e1; injection e1)
  subst this
  have mj := ixg_get m
  have me := List.mem_of_getElem? he
  have hel := e6 _ _ _ mj he
  have eb : a.b ≠ e := fun z => e4 (z ▸ me)
  have ee : a.e ≠ e := fun z => e5 (z ▸ me)
  have ep : a.p ≠ e := fun z => by rw [← z, h.ob] at hel; cases hel
  have H'b := bt _ _ b1 eb
  have H'e := bt _ _ hes ee
  refine ⟨⟨bt _ _ h.ob ep, ⟨bs, H'b, b2, b3, fun j p d x y => ?_⟩, ⟨es, H'e, e2, e3, e4, e5, fun j p d x y => ?_⟩, h.ne, h.tr, fun x hx => ?_⟩, fun b o ho nr => bt _ _ ho fun z => nr (.inr (.inr (.inr ⟨_, hes, by rw [z]; exact List.mem_map.mpr ⟨e, me, rfl⟩⟩))), fun b hb => .inl ?_, fun b hb => ?_⟩
  · obtain ⟨kvs, z1, z2, z3⟩ := b4 j p d x y
    exact ⟨kvs, bt _ _ z1 (fun z => by rw [z, hel] at z1; cases z1), z2, z3⟩
  · rw [numsP_snoc]
    by_cases c : j = ixg ps (pre l)
    · subst c
      rw [mj] at x; cases x
      rw [he] at y; cases y
      rw [if_pos (decide_eq_true rfl), List.map_append]
      exact hn
    · have np : ¬ pre l = p := fun z => by
        subst z
        exact c ((List.getElem?_inj (List.getElem?_eq_some_iff.mp x).1 h.tr.nd).mp (x.trans mj.symm))
      rw [if_neg (by rw [decide_eq_false np]; exact Bool.false_ne_true), List.append_nil]
      refine bt _ _ (e6 j p d x y) fun z => ?_
      subst z
      exact c ((List.getElem?_inj (List.getElem?_eq_some_iff.mp y).1 e3).mp (y.trans he.symm))
  · rcases List.mem_append.mp hx with hx | hx
    · exact h.all x hx
    · rw [List.mem_singleton.mp hx]; exact m
  · rcases hb with hb | hb | ⟨us, z, mm⟩ | ⟨us, z, mm⟩
    · exact .inl hb
    · exact .inr (.inl hb)
    · exact .inr (.inr (.inl ⟨us, by rw [b1, ← H'b]; exact z, mm⟩))
    · exact .inr (.inr (.inr ⟨us, by rw [hes, ← H'e]; exact z, mm⟩))
  · cases z : H b with
    | none => exact absurd z hb
    | some o =>
      by_cases c : b = e
      · rw [c, hn]; exact fun z => nomatch z
      · rw [bt _ _ z c]; exact fun z => nomatch z
end J
namespace J
open PySem L2
/-- the index is kept where its objects are kept -/
theorem RiAt.keep {C : Addr} {P : Program} {w : World} {H H' : Hp} {a : RiA} {ls : List Tm} {ps : List (List Leaf)} (h : RiAt C P w H a ls ps) (f : ∀ b o, (b = a.p ∨ RgI H a b) → H b = some o → H' b = some o) : RiAt C P w H' a ls ps ∧ ∀ b, RgI H' a b → RgI H a b := by
  have k : ∀ b, RgI H a b → H' b = H b := fun b r => by
    rcases h.kind r with ⟨l, z⟩ | ⟨kvs, z⟩
    · rw [z]; exact f b _ (.inr r) z
    · rw [z]; exact f b _ (.inr r) z
  refine ⟨h.but (by rw [h.ob]; exact f _ _ (.inl rfl) h.ob) k, fun b r => ?_⟩
  rcases r with r | r | ⟨us, e, m⟩ | ⟨us, e, m⟩
  · exact .inl r
  · exact .inr (.inl r)
  · rw [k a.b (.inl rfl)] at e
    exact .inr (.inr (.inl ⟨us, e, m⟩))
  · rw [k a.e (.inr (.inl rfl))] at e
    exact .inr (.inr (.inr ⟨us, e, m⟩))
theorem RiAt.keepB {C : Addr} {P : Program} {w : World} {H H' : Hp} {a : RiA} {ls : List Tm} {ps : List (List Leaf)} {s : Addr} (h : RiAt C P w H a ls ps) (b : But s H H') (ns : ¬ RgI H a s) (np : a.p ≠ s) : RiAt C P w H' a ls ps ∧ ∀ b, RgI H' a b → RgI H a b :=
  h.keep fun c o e hc => b c o hc fun z => by
    subst z
    rcases e with e | e
    · exact np e.symm
    · exact ns e
end J

namespace Lw
open PySem L2 PyProof.Rows J
local macro_rules | `(tactic| walk_at "hp") => `(tactic| first | assumption | exact upd_same)
local macro_rules | `(tactic| walk_at "side") => `(tactic| first
  | (show (0 : Int) < _; decide)
  | exact Or.inr ⟨by decide, by decide⟩
  | exact Or.inl ⟨by decide, by decide⟩
  | exact ⟨by decide, by decide⟩
  | exact ⟨by decide, by decide, by decide⟩
  | (show (_ : Int) ≠ 0; omega)
  | (show _ < _; omega)
  | exact ⟨by omega, by omega⟩
  | exact Or.inl ⟨by omega, by omega⟩
  | exact Or.inr ⟨by omega, by omega⟩)
local macro_rules | `(tactic| walk_at "rd1") => `(tactic| first
  | refine ⟨_, rfl, ?_⟩
  | refine ⟨_, _, rfl, rfl, by walk_at "side", ?_⟩
  | refine ⟨_, _, rfl, rfl, ?_⟩
  | refine .inl ⟨_, rfl, ?_⟩
  | refine ⟨_, _, _, _, rfl, rfl, SqL.of (by walk_at "hp"), by first | assumption | exact at_zero | rfl, ?_⟩
  | refine ⟨_, _, _, _, rfl, rfl, SqT.of (by walk_at "hp"), by first | assumption | exact at_zero | rfl, ?_⟩
  | refine ⟨_, _, rfl, .inl (SqL.of (by walk_at "hp")), ?_⟩
  | refine ⟨_, _, rfl, .inr (SqT.of (by walk_at "hp")), ?_⟩
  | refine ⟨_, _, _, _, rfl, rfl, by walk_at "hp", rfl, ?_⟩
  | refine ⟨rfl, ?_⟩)
local macro_rules | `(tactic| walk_at "rd") => `(tactic| repeat walk_at "rd1")
local macro_rules | `(tactic| walk_at "isi") => `(tactic| first
  | refine ⟨_, _, _, _, true, rfl, .ty _, .base (.int _), kit_ty (by decide +kernel), ?_⟩
  | refine ⟨_, _, _, _, false, rfl, .ty _, .base (.int _), kit_ty (by decide +kernel), ?_⟩
  | refine ⟨_, _, _, _, true, rfl, .ty _, .base (.tup (by walk_at "hp")), kit_ty (by decide +kernel), ?_⟩
  | refine ⟨_, _, _, _, false, rfl, .ty _, .base (.tup (by walk_at "hp")), kit_ty (by decide +kernel), ?_⟩
  | refine ⟨_, _, _, _, true, rfl, .ty _, .base (.lst (by walk_at "hp")), kit_ty (by decide +kernel), ?_⟩
  | refine ⟨_, _, _, _, false, rfl, .ty _, .base (.lst (by walk_at "hp")), kit_ty (by decide +kernel), ?_⟩
  | refine ⟨_, _, _, _, true, rfl, .ty _, .base (.dK (by walk_at "hp")), kit_ty (by decide +kernel), ?_⟩
  | refine ⟨_, _, _, _, false, rfl, .ty _, .base (.dK (by walk_at "hp")), kit_ty (by decide +kernel), ?_⟩
  | refine ⟨_, _, _, _, true, rfl, .ty _, .base (.str _), kit_ty (by decide +kernel), ?_⟩
  | refine ⟨_, _, _, _, false, rfl, .ty _, .base (.str _), kit_ty (by decide +kernel), ?_⟩
  | refine ⟨_, _, _, _, true, rfl, .ty _, .base (.bl _), kit_ty (by decide +kernel), ?_⟩
  | refine ⟨_, _, _, _, false, rfl, .ty _, .base (.bl _), kit_ty (by decide +kernel), ?_⟩
  | refine ⟨_, _, _, _, true, rfl, .ty _, .base (.non), kit_ty (by decide +kernel), ?_⟩
  | refine ⟨_, _, _, _, false, rfl, .ty _, .base (.non), kit_ty (by decide +kernel), ?_⟩)
local macro_rules | `(tactic| walk_at "sl1") => `(tactic| (refine ⟨_, _, rfl, SqT.of (by walk_at "hp"), sl1c _ _, ?_⟩; rw [cut1]))
local macro_rules | `(tactic| walk_at "ri") => `(tactic| repeat (first | walk_at "rd1" | walk_at "isi"))

def topS (i : Nat) : Stmt := PySem.Challenge.pw_joinedends_k44_rule_index.main.body.getD i (.Pass ⟨0, 0, 0, 0⟩)
abbrev s_u_law_state : Stmt := topS 13
theorem sc_u_law_state : FnScope ["script"] ["script"] (defScope s_u_law_state) := ⟨rfl, rfl, rfl, by decide +kernel, rfl, by decide +kernel, by decide +kernel⟩
abbrev s_u_law_mix : Stmt := topS 11
theorem sc_u_law_mix : FnScope ["cell", "number"] ["cell"] (defScope s_u_law_mix) := ⟨rfl, rfl, rfl, by decide +kernel, rfl, by decide +kernel, by decide +kernel⟩
abbrev s_u_law_number : Stmt := topS 12
theorem sc_u_law_number : FnScope ["cell", "first"] ["cell"] (defScope s_u_law_number) := ⟨rfl, rfl, rfl, by decide +kernel, rfl, by decide +kernel, by decide +kernel⟩
abbrev s_u_law_draw : Stmt := topS 14
theorem sc_u_law_draw : FnScope ["state", "many", "value"] ["state", "many"] (defScope s_u_law_draw) := ⟨rfl, rfl, rfl, by decide +kernel, rfl, by decide +kernel, by decide +kernel⟩
abbrev s_u_law_word : Stmt := topS 15
theorem sc_u_law_word : FnScope ["state", "size", "letters", "k"] ["state", "size"] (defScope s_u_law_word) := ⟨rfl, rfl, rfl, by decide +kernel, rfl, by decide +kernel, by decide +kernel⟩
abbrev s_u_law_names : Stmt := topS 16
theorem sc_u_law_names : FnScope ["state", "count", "letters", "before", "behind", "first", "k"] ["state", "count"] (defScope s_u_law_names) := ⟨rfl, rfl, rfl, by decide +kernel, rfl, by decide +kernel, by decide +kernel⟩
abbrev s_u_law_operations : Stmt := topS 17
theorem sc_u_law_operations : FnScope ["state", "names", "arities", "k"] ["state"] (defScope s_u_law_operations) := ⟨rfl, rfl, rfl, by decide +kernel, rfl, by decide +kernel, by decide +kernel⟩
abbrev s_u_law_leaf : Stmt := topS 18
theorem sc_u_law_leaf : FnScope ["state", "operations", "count"] ["state", "operations", "count"] (defScope s_u_law_leaf) := ⟨rfl, rfl, rfl, by decide +kernel, rfl, by decide +kernel, by decide +kernel⟩
abbrev s_u_law_term : Stmt := topS 19
theorem sc_u_law_term : FnScope ["state", "operations", "count", "height", "name", "arity", "term", "k"] ["state", "operations", "count", "height"] (defScope s_u_law_term) := ⟨rfl, rfl, rfl, by decide +kernel, rfl, by decide +kernel, by decide +kernel⟩
abbrev s_u_law_app : Stmt := topS 24
theorem sc_u_law_app : FnScope ["state", "operations", "count", "height", "name", "arity", "term", "k"] ["state", "operations", "count", "height"] (defScope s_u_law_app) := ⟨rfl, rfl, rfl, by decide +kernel, rfl, by decide +kernel, by decide +kernel⟩
abbrev s_u_law_variables : Stmt := topS 23
theorem sc_u_law_variables : FnScope ["term", "found", "argument", "variable"] ["term"] (defScope s_u_law_variables) := ⟨rfl, rfl, rfl, by decide +kernel, rfl, by decide +kernel, by decide +kernel⟩
abbrev s_u_law_substitute : Stmt := topS 22
theorem sc_u_law_substitute : FnScope ["term", "substitution", "result", "argument"] ["term", "substitution"] (defScope s_u_law_substitute) := ⟨rfl, rfl, rfl, by decide +kernel, rfl, by decide +kernel, by decide +kernel⟩
abbrev s_u_law_rule : Stmt := topS 25
theorem sc_u_law_rule : FnScope ["state", "operations", "count", "height", "left", "known", "right", "renamed", "variable"] ["state", "operations", "count", "height"] (defScope s_u_law_rule) := ⟨rfl, rfl, rfl, by decide +kernel, rfl, by decide +kernel, by decide +kernel⟩
abbrev s_symbols : Stmt := topS 4
theorem sc_symbols : FnScope ["term", "found", "waiting", "part"] ["term"] (defScope s_symbols) := ⟨rfl, rfl, rfl, by decide +kernel, rfl, by decide +kernel, by decide +kernel⟩
abbrev s_variables : Stmt := topS 5
theorem sc_variables : FnScope ["term", "found", "symbol"] ["term"] (defScope s_variables) := ⟨rfl, rfl, rfl, by decide +kernel, rfl, by decide +kernel, by decide +kernel⟩
abbrev s_is_rule : Stmt := topS 7
theorem sc_is_rule : FnScope ["left", "right", "names", "variable"] ["left", "right"] (defScope s_is_rule) := ⟨rfl, rfl, rfl, by decide +kernel, rfl, by decide +kernel, by decide +kernel⟩
abbrev s_InvalidRule___init : Stmt := inClass (topS 2) 0
theorem sc_InvalidRule___init : FnScope ["self", "index"] ["self", "index"] (defScope s_InvalidRule___init) := ⟨rfl, rfl, rfl, by decide +kernel, rfl, by decide +kernel, by decide +kernel⟩
abbrev s_check_rules : Stmt := topS 8
theorem sc_check_rules : FnScope ["rules", "number", "left", "right"] ["rules"] (defScope s_check_rules) := ⟨rfl, rfl, rfl, by decide +kernel, rfl, by decide +kernel, by decide +kernel⟩
abbrev s_RuleIndex__branch : Stmt := inClass (topS 9) 2
theorem sc_RuleIndex__branch : FnScope ["self", "left", "branch", "symbol", "entry"] ["self", "left"] (defScope s_RuleIndex__branch) := ⟨rfl, rfl, rfl, by decide +kernel, rfl, by decide +kernel, by decide +kernel⟩
abbrev s_RuleIndex___init : Stmt := inClass (topS 9) 0
theorem sc_RuleIndex___init : FnScope ["self", "rules", "number", "left", "_"] ["self", "rules"] (defScope s_RuleIndex___init) := ⟨rfl, rfl, rfl, by decide +kernel, rfl, by decide +kernel, by decide +kernel⟩
abbrev s_RuleIndex_candidates : Stmt := inClass (topS 9) 1
theorem sc_RuleIndex_candidates : FnScope ["self", "term", "found", "waiting", "branch", "chain", "part", "rest", "following", "argument"] ["self", "term"] (defScope s_RuleIndex_candidates) := ⟨rfl, rfl, rfl, by decide +kernel, rfl, by decide +kernel, by decide +kernel⟩
abbrev s_u_law_refused : Stmt := topS 31
theorem sc_u_law_refused : FnScope ["rules", "e"] ["rules"] (defScope s_u_law_refused) := ⟨rfl, rfl, rfl, by decide +kernel, rfl, by decide +kernel, by decide +kernel⟩
abbrev s_u_law_positions : Stmt := topS 21
theorem sc_u_law_positions : FnScope ["term", "found", "k", "inner"] ["term"] (defScope s_u_law_positions) := ⟨rfl, rfl, rfl, by decide +kernel, rfl, by decide +kernel, by decide +kernel⟩
abbrev s_u_law_replace : Stmt := topS 20
theorem sc_u_law_replace : FnScope ["term", "position", "new", "k"] ["term", "position", "new"] (defScope s_u_law_replace) := ⟨rfl, rfl, rfl, by decide +kernel, rfl, by decide +kernel, by decide +kernel⟩
abbrev s_u_law_short_values : Stmt := topS 29
theorem sc_u_law_short_values : FnScope ["state", "operations", "values", "variable"] ["state", "operations"] (defScope s_u_law_short_values) := ⟨rfl, rfl, rfl, by decide +kernel, rfl, by decide +kernel, by decide +kernel⟩
abbrev s_u_law_reducible : Stmt := topS 28
theorem sc_u_law_reducible : FnScope ["state", "operations", "rules", "term", "k", "left", "found", "places"] ["state", "operations", "rules"] (defScope s_u_law_reducible) := ⟨rfl, rfl, rfl, by decide +kernel, rfl, by decide +kernel, by decide +kernel⟩
abbrev s_u_law_spoilt : Stmt := topS 27
theorem sc_u_law_spoilt : FnScope ["state", "operations", "count", "term", "places", "position"] ["state", "operations", "count", "term"] (defScope s_u_law_spoilt) := ⟨rfl, rfl, rfl, by decide +kernel, rfl, by decide +kernel, by decide +kernel⟩
abbrev s_u_law_fits : Stmt := topS 30
theorem sc_u_law_fits : FnScope ["left", "term", "k"] ["left", "term"] (defScope s_u_law_fits) := ⟨rfl, rfl, rfl, by decide +kernel, rfl, by decide +kernel, by decide +kernel⟩
abbrev s_u_law_is_integer : Stmt := topS 26
theorem sc_u_law_is_integer : FnScope ["actual"] ["actual"] (defScope s_u_law_is_integer) := ⟨rfl, rfl, rfl, by decide +kernel, rfl, by decide +kernel, by decide +kernel⟩
abbrev s_law : Stmt := topS 32
theorem sc_law : FnScope ["script", "state", "operations", "rules", "k", "kind", "rule", "left", "passed", "index", "term", "expected", "j", "question", "number"] ["script"] (defScope s_law) := ⟨rfl, rfl, rfl, by decide +kernel, rfl, by decide +kernel, by decide +kernel⟩
structure Ad where
  a_u_law_state : Addr
  d_u_law_state : FuncData
  a_u_law_mix : Addr
  d_u_law_mix : FuncData
  a_u_law_number : Addr
  d_u_law_number : FuncData
  a_u_law_draw : Addr
  d_u_law_draw : FuncData
  a_u_law_word : Addr
  d_u_law_word : FuncData
  a_u_law_names : Addr
  d_u_law_names : FuncData
  a_u_law_operations : Addr
  d_u_law_operations : FuncData
  a_u_law_leaf : Addr
  d_u_law_leaf : FuncData
  a_u_law_term : Addr
  d_u_law_term : FuncData
  a_u_law_app : Addr
  d_u_law_app : FuncData
  a_u_law_variables : Addr
  d_u_law_variables : FuncData
  a_u_law_substitute : Addr
  d_u_law_substitute : FuncData
  a_u_law_rule : Addr
  d_u_law_rule : FuncData
  a_symbols : Addr
  d_symbols : FuncData
  a_variables : Addr
  d_variables : FuncData
  a_is_rule : Addr
  d_is_rule : FuncData
  a_InvalidRule___init : Addr
  d_InvalidRule___init : FuncData
  a_check_rules : Addr
  d_check_rules : FuncData
  a_RuleIndex__branch : Addr
  d_RuleIndex__branch : FuncData
  a_RuleIndex___init : Addr
  d_RuleIndex___init : FuncData
  a_RuleIndex_candidates : Addr
  d_RuleIndex_candidates : FuncData
  a_u_law_refused : Addr
  d_u_law_refused : FuncData
  a_u_law_positions : Addr
  d_u_law_positions : FuncData
  a_u_law_replace : Addr
  d_u_law_replace : FuncData
  a_u_law_short_values : Addr
  d_u_law_short_values : FuncData
  a_u_law_reducible : Addr
  d_u_law_reducible : FuncData
  a_u_law_spoilt : Addr
  d_u_law_spoilt : FuncData
  a_u_law_fits : Addr
  d_u_law_fits : FuncData
  a_u_law_is_integer : Addr
  d_u_law_is_integer : FuncData
  a_law : Addr
  d_law : FuncData
  c_InvalidRule : Addr
  c_RuleIndex : Addr
structure Tx (K : PySem.W.Frag) (mg : Str → Option Value) (A : Ad) : Prop where
  F_u_law_state : Fun K "_law_state" "_law_state" s_u_law_state A.a_u_law_state A.d_u_law_state
  b_u_law_state : Binds K A.d_u_law_state ["script"] []
  m_u_law_state : mg "_law_state" = some (.ref A.a_u_law_state)
  F_u_law_mix : Fun K "_law_mix" "_law_mix" s_u_law_mix A.a_u_law_mix A.d_u_law_mix
  b_u_law_mix : Binds K A.d_u_law_mix ["cell"] []
  m_u_law_mix : mg "_law_mix" = some (.ref A.a_u_law_mix)
  F_u_law_number : Fun K "_law_number" "_law_number" s_u_law_number A.a_u_law_number A.d_u_law_number
  b_u_law_number : Binds K A.d_u_law_number ["cell"] []
  m_u_law_number : mg "_law_number" = some (.ref A.a_u_law_number)
  F_u_law_draw : Fun K "_law_draw" "_law_draw" s_u_law_draw A.a_u_law_draw A.d_u_law_draw
  b_u_law_draw : Binds K A.d_u_law_draw ["state", "many"] []
  m_u_law_draw : mg "_law_draw" = some (.ref A.a_u_law_draw)
  F_u_law_word : Fun K "_law_word" "_law_word" s_u_law_word A.a_u_law_word A.d_u_law_word
  b_u_law_word : Binds K A.d_u_law_word ["state", "size"] []
  m_u_law_word : mg "_law_word" = some (.ref A.a_u_law_word)
  F_u_law_names : Fun K "_law_names" "_law_names" s_u_law_names A.a_u_law_names A.d_u_law_names
  b_u_law_names : Binds K A.d_u_law_names ["state", "count"] []
  m_u_law_names : mg "_law_names" = some (.ref A.a_u_law_names)
  F_u_law_operations : Fun K "_law_operations" "_law_operations" s_u_law_operations A.a_u_law_operations A.d_u_law_operations
  b_u_law_operations : Binds K A.d_u_law_operations ["state"] []
  m_u_law_operations : mg "_law_operations" = some (.ref A.a_u_law_operations)
  F_u_law_leaf : Fun K "_law_leaf" "_law_leaf" s_u_law_leaf A.a_u_law_leaf A.d_u_law_leaf
  b_u_law_leaf : Binds K A.d_u_law_leaf ["state", "operations", "count"] []
  m_u_law_leaf : mg "_law_leaf" = some (.ref A.a_u_law_leaf)
  F_u_law_term : Fun K "_law_term" "_law_term" s_u_law_term A.a_u_law_term A.d_u_law_term
  b_u_law_term : Binds K A.d_u_law_term ["state", "operations", "count", "height"] []
  m_u_law_term : mg "_law_term" = some (.ref A.a_u_law_term)
  F_u_law_app : Fun K "_law_app" "_law_app" s_u_law_app A.a_u_law_app A.d_u_law_app
  b_u_law_app : Binds K A.d_u_law_app ["state", "operations", "count", "height"] []
  m_u_law_app : mg "_law_app" = some (.ref A.a_u_law_app)
  F_u_law_variables : Fun K "_law_variables" "_law_variables" s_u_law_variables A.a_u_law_variables A.d_u_law_variables
  b_u_law_variables : Binds K A.d_u_law_variables ["term"] []
  m_u_law_variables : mg "_law_variables" = some (.ref A.a_u_law_variables)
  F_u_law_substitute : Fun K "_law_substitute" "_law_substitute" s_u_law_substitute A.a_u_law_substitute A.d_u_law_substitute
  b_u_law_substitute : Binds K A.d_u_law_substitute ["term", "substitution"] []
  m_u_law_substitute : mg "_law_substitute" = some (.ref A.a_u_law_substitute)
  F_u_law_rule : Fun K "_law_rule" "_law_rule" s_u_law_rule A.a_u_law_rule A.d_u_law_rule
  b_u_law_rule : Binds K A.d_u_law_rule ["state", "operations", "count", "height"] []
  m_u_law_rule : mg "_law_rule" = some (.ref A.a_u_law_rule)
  F_symbols : Fun K "symbols" "symbols" s_symbols A.a_symbols A.d_symbols
  b_symbols : Binds K A.d_symbols ["term"] []
  m_symbols : mg "symbols" = some (.ref A.a_symbols)
  F_variables : Fun K "variables" "variables" s_variables A.a_variables A.d_variables
  b_variables : Binds K A.d_variables ["term"] []
  m_variables : mg "variables" = some (.ref A.a_variables)
  F_is_rule : Fun K "is_rule" "is_rule" s_is_rule A.a_is_rule A.d_is_rule
  b_is_rule : Binds K A.d_is_rule ["left", "right"] []
  m_is_rule : mg "is_rule" = some (.ref A.a_is_rule)
  F_InvalidRule___init : Fun K "__init__" "InvalidRule.__init__" s_InvalidRule___init A.a_InvalidRule___init A.d_InvalidRule___init
  b_InvalidRule___init : Binds K A.d_InvalidRule___init ["self", "index"] []
  F_check_rules : Fun K "check_rules" "check_rules" s_check_rules A.a_check_rules A.d_check_rules
  b_check_rules : Binds K A.d_check_rules ["rules"] []
  m_check_rules : mg "check_rules" = some (.ref A.a_check_rules)
  F_RuleIndex__branch : Fun K "_branch" "RuleIndex._branch" s_RuleIndex__branch A.a_RuleIndex__branch A.d_RuleIndex__branch
  b_RuleIndex__branch : Binds K A.d_RuleIndex__branch ["self", "left"] []
  F_RuleIndex___init : Fun K "__init__" "RuleIndex.__init__" s_RuleIndex___init A.a_RuleIndex___init A.d_RuleIndex___init
  b_RuleIndex___init : Binds K A.d_RuleIndex___init ["self", "rules"] []
  F_RuleIndex_candidates : Fun K "candidates" "RuleIndex.candidates" s_RuleIndex_candidates A.a_RuleIndex_candidates A.d_RuleIndex_candidates
  b_RuleIndex_candidates : Binds K A.d_RuleIndex_candidates ["self", "term"] []
  F_u_law_refused : Fun K "_law_refused" "_law_refused" s_u_law_refused A.a_u_law_refused A.d_u_law_refused
  b_u_law_refused : Binds K A.d_u_law_refused ["rules"] []
  m_u_law_refused : mg "_law_refused" = some (.ref A.a_u_law_refused)
  F_u_law_positions : Fun K "_law_positions" "_law_positions" s_u_law_positions A.a_u_law_positions A.d_u_law_positions
  b_u_law_positions : Binds K A.d_u_law_positions ["term"] []
  m_u_law_positions : mg "_law_positions" = some (.ref A.a_u_law_positions)
  F_u_law_replace : Fun K "_law_replace" "_law_replace" s_u_law_replace A.a_u_law_replace A.d_u_law_replace
  b_u_law_replace : Binds K A.d_u_law_replace ["term", "position", "new"] []
  m_u_law_replace : mg "_law_replace" = some (.ref A.a_u_law_replace)
  F_u_law_short_values : Fun K "_law_short_values" "_law_short_values" s_u_law_short_values A.a_u_law_short_values A.d_u_law_short_values
  b_u_law_short_values : Binds K A.d_u_law_short_values ["state", "operations"] []
  m_u_law_short_values : mg "_law_short_values" = some (.ref A.a_u_law_short_values)
  F_u_law_reducible : Fun K "_law_reducible" "_law_reducible" s_u_law_reducible A.a_u_law_reducible A.d_u_law_reducible
  b_u_law_reducible : Binds K A.d_u_law_reducible ["state", "operations", "rules"] []
  m_u_law_reducible : mg "_law_reducible" = some (.ref A.a_u_law_reducible)
  F_u_law_spoilt : Fun K "_law_spoilt" "_law_spoilt" s_u_law_spoilt A.a_u_law_spoilt A.d_u_law_spoilt
  b_u_law_spoilt : Binds K A.d_u_law_spoilt ["state", "operations", "count", "term"] []
  m_u_law_spoilt : mg "_law_spoilt" = some (.ref A.a_u_law_spoilt)
  F_u_law_fits : Fun K "_law_fits" "_law_fits" s_u_law_fits A.a_u_law_fits A.d_u_law_fits
  b_u_law_fits : Binds K A.d_u_law_fits ["left", "term"] []
  m_u_law_fits : mg "_law_fits" = some (.ref A.a_u_law_fits)
  F_u_law_is_integer : Fun K "_law_is_integer" "_law_is_integer" s_u_law_is_integer A.a_u_law_is_integer A.d_u_law_is_integer
  b_u_law_is_integer : Binds K A.d_u_law_is_integer ["actual"] []
  m_u_law_is_integer : mg "_law_is_integer" = some (.ref A.a_u_law_is_integer)
  F_law : Fun K "law" "law" s_law A.a_law A.d_law
  b_law : Binds K A.d_law ["script"] []
  m_law : mg "law" = some (.ref A.a_law)
  n_all : mg "all" = none
  n_bool : mg "bool" = none
  n_enumerate : mg "enumerate" = none
  n_int : mg "int" = none
  n_isinstance : mg "isinstance" = none
  n_len : mg "len" = none
  n_list : mg "list" = none
  n_range : mg "range" = none
  n_sorted : mg "sorted" = none
  n_tuple : mg "tuple" = none
  E_InvalidRule : ErrI K mg "InvalidRule" A.c_InvalidRule A.a_InvalidRule___init
  K_RuleIndex : Cls K A.c_RuleIndex
  M_RuleIndex : Mk K A.c_RuleIndex A.a_RuleIndex___init
  g_RuleIndex : mg "RuleIndex" = some (.ref A.c_RuleIndex)
  N_RuleIndex__branches : NoAttr K A.c_RuleIndex "_branches"
  N_RuleIndex__ends : NoAttr K A.c_RuleIndex "_ends"
  H_RuleIndex__branch : Meth K A.c_RuleIndex "_branch" A.a_RuleIndex__branch
  H_RuleIndex_candidates : Meth K A.c_RuleIndex "candidates" A.a_RuleIndex_candidates
  nf_index : PySem.W.findIn K (.ref A.c_InvalidRule) "index" = some none
section
variable {P : Program} {w : World} {K : PySem.W.Frag} {mg : Str → Option Value} {base : Heap} {A : Ad}
/-! _law_state -/
def sp_u_law_state (K : PySem.W.Frag) : Sp := fun vs H Q _ => ∃ (a : Addr) (ns : List Int), vs = [.ref a] ∧ SqL K H a (ns.map V.int) ∧ ns.length ≤ 63 ∧ ∀ s l H', Same H H' → H s = none → H l = none → St H' s l → Q (.ref s) H'
theorem ok_u_law_state (T : Tx K mg A) : FnOk P w K mg base CX0 1 A.a_u_law_state A.d_u_law_state ["script"] (sp_u_law_state K) := by
  refine T.F_u_law_state.ok sc_u_law_state (fun vs H Q E h => ?_) (fun cdv Ar outer s0 H vs Q E hr h => ?_)
  · obtain ⟨a, ns, rfl, _⟩ := h; rfl
  obtain ⟨a, ns, rfl, hS, h63, q⟩ := h
  refine ⟨_, (pss_one (ps_ret (pe_lst (pa_cons pe_int (pa_cons (pe_callTy (r := rListS K) j_list (by rfl) T.n_list boot_list (pa_cons (pv 0) pa_nil)) (pa_cons pe_int (pa_cons (pe_op op_add pe_int (pe_callB (r := rLenS K) j_len (by rfl) T.n_len PySem.boot_len (pa_cons (pv 0) pa_nil))) pa_nil))))))), ?_⟩
  walk_at "rd"
  refine ⟨a, _, rfl, .inl hS, ?_⟩
  first | intro l n1 | refine fun l n1 => ?_
  generalize ehn : upd H l _ = H1
  have s1 := J.al_same n1 ehn
  have h1 := J.al_at ehn
  clear ehn
  walk_at "rd"
  refine ⟨a, _, rfl, .inl (s1.seq hS), ?_⟩
  walk_at "rd"
  refine ⟨by show 4 ≤ sizeLine; decide, ?_⟩
  first | intro s n2 | refine fun s n2 => ?_
  generalize ehn : upd H1 s _ = H2
  have s2 := J.al_same n2 ehn
  have h2 := J.al_at ehn
  clear ehn
  refine q s l H2 (s1.trans s2) (s1.free n2) n1 ⟨0, 0, _, ns, h2, s2 _ _ h1, Int.le_refl _, Int.natCast_nonneg _, Int.le_refl _, ?_, ?_, h63⟩
  · rw [List.length_map]; omega
  · rw [List.length_map]; omega

/-! _law_mix -/
def sp_u_law_mix : Sp := fun vs H Q _ => ∃ c : Int, vs = [.int c] ∧ ∀ r : Int, 0 ≤ r → r < 2147483647 → Q (.int r) H
theorem ok_u_law_mix (T : Tx K mg A) : FnOk P w K mg base CX0 (1) A.a_u_law_mix A.d_u_law_mix ["cell"] sp_u_law_mix := by
  refine T.F_u_law_mix.ok sc_u_law_mix (fun vs H Q E h => ?_) (fun cdv Ar outer s0 H vs Q E hr h => ?_)
  · obtain ⟨c, rfl, _⟩ := h; rfl
  obtain ⟨c, rfl, q⟩ := h
  refine ⟨_, (pss_cons (ps_set (i := 1) sc_u_law_mix.nd rfl (Or.inl rfl) (pe_op op_mod (pe_callTy call_int1 (by rfl) T.n_int boot_int (pa_cons (pv 0) pa_nil)) pe_int))
    (pss_cons (ps_set (i := 1) sc_u_law_mix.nd rfl (Or.inl rfl) (pe_op op_mod (pe_callTy call_int1 (by rfl) T.n_int boot_int (pa_cons (pe_op op_add (pe_op op_mul (pv 1) pe_int) pe_int) pa_nil)) pe_int))
    (pss_one (ps_ret (pe_op op_mod (pe_callTy call_int1 (by rfl) T.n_int boot_int (pa_cons (pe_op op_add (pe_op op_mul (pv 1) pe_int) pe_int) pa_nil)) pe_int))))), ?_⟩
  walk_at "rd"
  refine q _ (Int.emod_nonneg _ (by decide)) ?_
  show _ % _ < _
  omega

/-! _law_number -/
def sp_u_law_number : Sp := fun vs H Q _ => ∃ c : Int, vs = [.int c] ∧ ∀ r : Int, 0 ≤ r → Q (.int r) H
theorem ok_u_law_number (T : Tx K mg A) : FnOk P w K mg base CX0 (2) A.a_u_law_number A.d_u_law_number ["cell"] sp_u_law_number := by
  have G_u_law_mix := ok_u_law_mix (P := P) (w := w) (base := base) T
  refine T.F_u_law_number.ok sc_u_law_number (fun vs H Q E h => ?_) (fun cdv Ar outer s0 H vs Q E hr h => ?_)
  · obtain ⟨c, rfl, _⟩ := h; rfl
  obtain ⟨c, rfl, q⟩ := h
  refine ⟨_, (pss_cons (ps_if (pt_cmpR op_ge (pv 0) (pe_op op_pow pe_int pe_int) (nomark _)) (pss_one (ps_ret (pv 0))) pss_nil)
    (pss_cons (ps_set (i := 1) sc_u_law_number.nd rfl (Or.inl rfl) (pe_call G_u_law_mix (hr.mono (by omega)) rfl T.m_u_law_mix T.F_u_law_mix.kp T.b_u_law_mix .nil pass0 (pa_cons (pv 0) pa_nil)))
    (pss_one (ps_ret (pe_op op_add (pe_op op_mul (pv 1) pe_int) (pe_call G_u_law_mix (hr.mono (by omega)) rfl T.m_u_law_mix T.F_u_law_mix.kp T.b_u_law_mix .nil pass0 (pa_cons (pe_op op_add (pv 1) (pv 0)) pa_nil))))))), ?_⟩
  walk_at "rd"
  refine ite2 (fun e => ?_) (fun e => ?_)
  · walk_at "rd"
    have e := of_decide_eq_true e
    refine q _ (Int.le_trans ?_ e)
    decide
  · walk_at "rd"
    intro r1 r10 r11
    walk_at "rd"
    intro r2 r20 r21
    walk_at "rd"
    refine q _ ?_
    show 0 ≤ r1 * 2147483629 + r2
    omega

/-! _law_draw -/
def sp_u_law_draw : Sp := fun vs H Q _ => ∃ (s l : Addr) (m : Int), vs = [.ref s, .int m] ∧ St H s l ∧ 1 ≤ m ∧ m < 1073741824 ∧ ∀ r H', 0 ≤ r → r < m → But s H H' → St H' s l → Q (.int r) H'
theorem ok_u_law_draw (T : Tx K mg A) : FnOk P w K mg base CX0 (3) A.a_u_law_draw A.d_u_law_draw ["state", "many"] sp_u_law_draw := by
  have G_u_law_number := ok_u_law_number (P := P) (w := w) (base := base) T
  refine T.F_u_law_draw.ok sc_u_law_draw (fun vs H Q E h => ?_) (fun cdv Ar outer s0 H vs Q E hr h => ?_)
  · obtain ⟨s, l, m, rfl, _⟩ := h; rfl
  obtain ⟨s, l, m, rfl, hst, m1, m2, q⟩ := h
  refine ⟨_, (pss_cons (ps_if (PW.pt (pw_and (pt_cmpR op_lt (pe_ix (r := rIxL K) ix_list (pv 0) pe_int (fun _ _ => rfl)) (pv 1) (nomark _)) (pw_and1 (pt_cmpR op_lt (pe_ix (r := rIxL K) ix_list (pv 0) pe_int (fun _ _ => rfl)) (pe_callB (r := rLenS K) j_len (by rfl) T.n_len PySem.boot_len (pa_cons (pe_ix (r := rIxL K) ix_list (pv 0) pe_int (fun _ _ => rfl)) pa_nil)) (nomark _))))) (pss_cons (ps_asg (pe_call G_u_law_number (hr.mono (by omega)) rfl T.m_u_law_number T.F_u_law_number.kp T.b_u_law_number .nil pass0 (pa_cons (pe_ix (r := rIxL K) ix_list (pe_ix (r := rIxL K) ix_list (pv 0) pe_int (fun _ _ => rfl)) (pe_ix (r := rIxL K) ix_list (pv 0) pe_int (fun _ _ => rfl)) (fun _ _ => rfl)) pa_nil)) (pg_sub (pv 0) pe_int set_list))
    (pss_one (ps_asg (pe_op op_add (pe_ix (r := rIxL K) ix_list (pv 0) pe_int (fun _ _ => rfl)) pe_int) (pg_sub (pv 0) pe_int set_list)))) pss_nil)
    (pss_cons (ps_if (pt_cmpR op_eq (pe_ix (r := rIxL K) ix_list (pv 0) pe_int (fun _ _ => rfl)) pe_int (nomark _)) (pss_cons (ps_asg (pe_op op_mod (pe_callTy call_int1 (by rfl) T.n_int boot_int (pa_cons (pe_op op_add (pe_op op_mul (pe_ix (r := rIxL K) ix_list (pv 0) pe_int (fun _ _ => rfl)) pe_int) pe_int) pa_nil)) pe_int) (pg_sub (pv 0) pe_int set_list))
    (pss_one (ps_ret (pe_op op_modN (pe_callTy call_int1 (by rfl) T.n_int boot_int (pa_cons (pe_op op_fdiv (pe_ix (r := rIxL K) ix_list (pv 0) pe_int (fun _ _ => rfl)) pe_int) pa_nil)) (pv 1))))) pss_nil)
    (pss_cons (ps_set (i := 2) sc_u_law_draw.nd rfl (Or.inl rfl) (pe_op op_modN (pe_callTy call_int1 (by rfl) T.n_int boot_int (pa_cons (pe_ix (r := rIxL K) ix_list (pv 0) pe_int (fun _ _ => rfl)) pa_nil)) (pv 1)))
    (pss_cons (ps_asg (pe_op op_fdivN (pe_ix (r := rIxL K) ix_list (pv 0) pe_int (fun _ _ => rfl)) (pv 1)) (pg_sub (pv 0) pe_int set_list))
    (pss_one (ps_ret (pv 2))))))), ?_⟩
  obtain ⟨v, at0, sd, ns, h1, h2, a0, a1, v0, sd0, sd1, h63⟩ := hst
  have ls : l ≠ s := St.ne_list h1 h2
  refine seq_join (fun σ' H' => σ' = [some (.ref s), some (.int m), none] ∧ But s H H' ∧ ∃ v at0 sd : Int, H' s = some (.lst [.int v, .ref l, .int at0, .int sd]) ∧ H' l = some (.lst (ns.map V.int)) ∧ 0 ≤ at0 ∧ at0 ≤ (ns.length : Int) ∧ 0 ≤ v ∧ 0 ≤ sd ∧ sd < 2147483648) ?_ (fun N cont => ?_)
  · rintro σ' H' ⟨rfl, b1, v, at0, sd, h1, h2, a0, a1, v0, sd0, sd1⟩
    refine seq_join (fun σ' H'' => σ' = [some (.ref s), some (.int m), none] ∧ H'' = H') ?_ (fun N cont => ?_)
    · rintro σ' H'' ⟨rfl, rfl⟩
      walk_at "rd"
      refine q _ _ (fmod_0 m1) (fmod_lt m1) (b1.trans (but_upd _)) ⟨_, at0, sd, ns, upd_same, ?_, a0, a1, ?_, sd0, sd1, h63⟩
      · rw [upd_ne ls]; exact h2
      · exact Int.fdiv_nonneg v0 (by omega)
    · walk_at "rd"
      refine ite2 (fun e => ?_) (fun e => cont _ _ ⟨rfl, rfl⟩)
      walk_at "rd"
      refine q _ _ (fmod_0 m1) (fmod_lt m1) (b1.trans (but_upd _)) ⟨_, at0, _, ns, upd_same, ?_, a0, a1, v0, ?_, ?_, h63⟩
      · rw [upd_ne ls]; exact h2
      · exact Int.emod_nonneg _ (by decide)
      · show (sd * 48271 + 7) % 2147483647 < _
        omega
  · walk_at "rd"
    refine ite2 (fun e => ?_) (fun e => ?_)
    · walk_at "rd"
      refine ite2 (fun e => ?_) (fun e => ?_)
      · have e := of_decide_eq_true e
        rw [List.length_map] at e
        obtain ⟨n, gat⟩ := at_int a0 e
        walk_at "rd"
        intro r r0
        walk_at "rd"

        refine cont _ _ ⟨rfl, (but_upd _).trans (but_upd _), _, _, sd, upd_same, ?_, ?_, ?_, r0, sd0, sd1⟩
        · rw [upd_ne ls, upd_ne ls]; exact h2
        · show 0 ≤ at0 + 1
          omega
        · show at0 + 1 ≤ _
          omega
      · exact cont _ _ ⟨rfl, But.refl _ _, v, at0, sd, h1, h2, a0, a1, v0, sd0, sd1⟩
    · exact cont _ _ ⟨rfl, But.refl _ _, v, at0, sd, h1, h2, a0, a1, v0, sd0, sd1⟩

/-! _law_word -/
def sp_u_law_word : Sp := fun vs H Q _ => ∃ (s l : Addr) (m : Nat), vs = [.ref s, .int (m : Int)] ∧ St H s l ∧ m ≤ 1000 ∧ ∀ z H', But s H H' → St H' s l → z.length = m → Low z → Q (.str z) H'
theorem ok_u_law_word (T : Tx K mg A) : FnOk P w K mg base CX0 (4) A.a_u_law_word A.d_u_law_word ["state", "size"] sp_u_law_word := by
  have G_u_law_draw := ok_u_law_draw (P := P) (w := w) (base := base) T
  refine T.F_u_law_word.ok sc_u_law_word (fun vs H Q E h => ?_) (fun cdv Ar outer s0 H vs Q E hr h => ?_)
  · obtain ⟨s, l, m, rfl, _⟩ := h; rfl
  obtain ⟨s, l, m, rfl, hst, hm, q⟩ := h
  refine ⟨_, (pss_cons (ps_set (i := 2) sc_u_law_word.nd rfl (Or.inr rfl) pe_str)
    (pss_one (ps_ret (pe_join pe_str (pe_lc (own := [("k", 3)]) (by rfl) sc_u_law_word.nd (pi_range1 rfl T.n_range (pa_cons (pv 1) pa_nil)) (blkOk_by (own := [("k", 3)]) (N := ["state", "size", "letters", "k"]) (sc := defScope s_u_law_word) (by decide +kernel)) (fun _ _ _ _ _ => (pg_name (i := 3) sc_u_law_word.nd rfl (Or.inl rfl))) (fun _ _ _ _ _ => pts_nil) (fun _ _ _ _ _ => (pe_ix ix_str (pv 2) (pe_call G_u_law_draw (hr.mono (by omega)) rfl T.m_u_law_draw T.F_u_law_draw.kp T.b_u_law_draw .nil pass0 (pa_cons (pv 0) (pa_cons pe_int pa_nil))) (fun _ _ => rfl)))))))), ?_⟩
  refine ⟨⟨_, rfl⟩, ?_⟩
  walk_at "rd"
  refine ⟨by omega, by omega, fun D hD => ?_⟩
  obtain ⟨sD, lD⟩ := hst.free hD
  refine lc_range (lo := 0) (n := m) (fun i H' => ∃ zs : List Str, H' D = some (.lst (zs.map V.str)) ∧ zs.length = i ∧ (∀ z ∈ zs, z.length = 1 ∧ Low z) ∧ But s H H' ∧ St H' s l) ?_ ?_ ?_
  · exact ⟨[], upd_same, rfl, (fun z hz => nomatch hz), but_same (same_new hD _), hst.upd sD lD⟩
  · rintro i H1 hi ⟨zs, hD1, hl, hz, b1, st1⟩
    refine ⟨rfl, ?_⟩
    walk_at "rd"
    refine ⟨s, l, 26, rfl, st1, by decide, by decide, fun r H2 r0 r1 b2 st2 => ?_⟩
    refine ⟨_, _, _, rfl, rfl, by decide, abc_at r0 r1, ?_⟩
    have hD2 := b2 _ _ hD1 sD.symm
    refine ⟨_, hD2, ?_, zs ++ [⟨#[97 + r.toNat]⟩], ?_, ?_, ?_, (b1.trans b2).mut hD _, st2.upd sD lD⟩
    · rw [List.length_map]; exact Nat.lt_of_le_of_lt (show zs.length ≤ 1000 by omega) (by decide)
    · rw [upd_same, List.map_append]; rfl
    · rw [List.length_append, hl]; rfl
    · intro z hz'
      rcases List.mem_append.mp hz' with h | h
      · exact hz z h
      · rw [List.mem_singleton.mp h]
        exact ⟨rfl, low_one (by omega)⟩
  · rintro H1 ⟨zs, hD1, hl, hz, b1, st1⟩
    have j := join_low hz
    refine ⟨_, _, zs, rfl, rfl, .inl (SqL.of hD1), ?_, q _ _ b1 st1 (by rw [j.1, hl]) j.2⟩
    rw [sum_ones fun z h => (hz z h).1]
    show zs.length + zs.length * 0 ≤ _
    omega

/-! _law_names -/
def sp_u_law_names : Sp := fun vs H Q _ => ∃ (s l : Addr) (m : Nat), vs = [.ref s, .int (m : Int)] ∧ St H s l ∧ m ≤ 26 ∧ ∀ p fs H', But s H H' → St H' s l → H p = none → H' p = some (.lst (fs.map V.str)) → fs.length = m → Names fs → Q (.ref p) H'
theorem ok_u_law_names (T : Tx K mg A) : FnOk P w K mg base CX0 (5) A.a_u_law_names A.d_u_law_names ["state", "count"] sp_u_law_names := by
  have G_u_law_draw := ok_u_law_draw (P := P) (w := w) (base := base) T
  have G_u_law_word := ok_u_law_word (P := P) (w := w) (base := base) T
  refine T.F_u_law_names.ok sc_u_law_names (fun vs H Q E h => ?_) (fun cdv Ar outer s0 H vs Q E hr h => ?_)
  · obtain ⟨s, l, m, rfl, _⟩ := h; rfl
  obtain ⟨s, l, m, rfl, hst, hm, q⟩ := h
  refine ⟨_, (pss_cons (ps_set (i := 2) sc_u_law_names.nd rfl (Or.inr rfl) pe_str)
    (pss_cons (ps_set (i := 3) sc_u_law_names.nd rfl (Or.inr rfl) (pe_call G_u_law_word (hr.mono (by omega)) rfl T.m_u_law_word T.F_u_law_word.kp T.b_u_law_word .nil pass0 (pa_cons (pv 0) (pa_cons (pe_call G_u_law_draw (hr.mono (by omega)) rfl T.m_u_law_draw T.F_u_law_draw.kp T.b_u_law_draw .nil pass0 (pa_cons (pv 0) (pa_cons pe_int pa_nil))) pa_nil))))
    (pss_cons (ps_set (i := 4) sc_u_law_names.nd rfl (Or.inr rfl) (pe_call G_u_law_word (hr.mono (by omega)) rfl T.m_u_law_word T.F_u_law_word.kp T.b_u_law_word .nil pass0 (pa_cons (pv 0) (pa_cons (pe_call G_u_law_draw (hr.mono (by omega)) rfl T.m_u_law_draw T.F_u_law_draw.kp T.b_u_law_draw .nil pass0 (pa_cons (pv 0) (pa_cons pe_int pa_nil))) pa_nil))))
    (pss_cons (ps_set (i := 5) sc_u_law_names.nd rfl (Or.inr rfl) (pe_call G_u_law_draw (hr.mono (by omega)) rfl T.m_u_law_draw T.F_u_law_draw.kp T.b_u_law_draw .nil pass0 (pa_cons (pv 0) (pa_cons pe_int pa_nil))))
    (pss_one (ps_ret (pe_lc (own := [("k", 6)]) (by rfl) sc_u_law_names.nd (pi_range1 rfl T.n_range (pa_cons (pv 1) pa_nil)) (blkOk_by (own := [("k", 6)]) (N := ["state", "count", "letters", "before", "behind", "first", "k"]) (sc := defScope s_u_law_names) (by decide +kernel)) (fun _ _ _ _ _ => (pg_name (i := 6) sc_u_law_names.nd rfl (Or.inl rfl))) (fun _ _ _ _ _ => pts_nil) (fun _ _ _ _ _ => (pe_op op_add_str (pe_op op_add_str (pv 3) (pe_ix ix_str (pv 2) (pe_op op_mod (pe_callTy call_int1 (by rfl) T.n_int boot_int (pa_cons (pe_op op_add (pv 5) (pe_op op_mul pe_int (pv 6))) pa_nil)) pe_int) (fun _ _ => rfl))) (pv 4)))))))))), ?_⟩
  walk_at "rd"
  refine ⟨s, l, 4, rfl, hst, by decide, by decide, fun r1 H1 r10 r11 b1 st1 => ?_⟩
  obtain ⟨k1, rfl⟩ := Int.eq_ofNat_of_zero_le r10
  refine ⟨s, l, k1, rfl, st1, by omega, fun z1 H2 b2 st2 zl1 zw1 => ?_⟩
  walk_at "rd"
  refine ⟨s, l, 4, rfl, st2, by decide, by decide, fun r3 H3 r30 r31 b3 st3 => ?_⟩
  obtain ⟨k3, rfl⟩ := Int.eq_ofNat_of_zero_le r30
  refine ⟨s, l, k3, rfl, st3, by omega, fun z4 H4 b4 st4 zl4 zw4 => ?_⟩
  walk_at "rd"
  refine ⟨s, l, 26, rfl, st4, by decide, by decide, fun r5 H5 r50 r51 b5 st5 => ?_⟩
  obtain ⟨f, rfl⟩ := Int.eq_ofNat_of_zero_le r50
  walk_at "rd"
  refine ⟨by omega, by omega, fun D hD => ?_⟩
  have bb := b1.trans (b2.trans (b3.trans (b4.trans b5)))
  obtain ⟨sD, lD⟩ := st5.free hD
  have hD0 : H D = none := by
    cases e : H D with
    | none => rfl
    | some o =>
      have := bb _ _ e sD.symm
      rw [hD] at this; cases this
  refine lc_range (lo := 0) (n := m) (fun i H' => H' D = some (.lst (((List.range i).map (nameAt z1 z4 f)).map V.str)) ∧ But s H5 H' ∧ St H' s l) ?_ ?_ ?_
  · exact ⟨upd_same, but_same (same_new hD _), st5.upd sD lD⟩
  · rintro i H6 hi ⟨hD6, b6, st6⟩
    refine ⟨rfl, ?_⟩
    walk_at "rd"
    have e : ((f : Int) + 3 * (0 + (i : Int))) % 26 = (((f + 3 * i) % 26 : Nat) : Int) := by omega
    refine ⟨_, _, 97 + (f + 3 * i) % 26, rfl, rfl, by decide, ?_, ?_⟩
    · show atI _ (((f : Int) + 3 * (0 + (i : Int))) % 26) = _
      rw [e]
      exact atI_nat (abc _ (Nat.mod_lt _ (by decide)))
    refine ⟨_, _, rfl, rfl, ?_, ?_⟩
    · show z1.length + 1 ≤ _
      exact Nat.le_trans (show z1.length + 1 ≤ 4 by omega) (by decide)
    walk_at "rd"
    refine ⟨?_, ?_⟩
    · rw [len_app]
      show z1.length + 1 + z4.length ≤ _
      exact Nat.le_trans (show z1.length + 1 + z4.length ≤ 10 by omega) (by decide)
    refine ⟨_, hD6, ?_, ?_, b6.mut hD _, st6.upd sD lD⟩
    · rw [List.length_map, List.length_map, List.length_range]; exact Nat.lt_of_le_of_lt (show i ≤ 26 by omega) (by decide)
    · rw [upd_same, List.range_succ, List.map_append, List.map_append]; rfl
  · rintro H6 ⟨hD6, b6, st6⟩
    refine q D _ H6 (bb.trans b6) st6 hD0 hD6 ?_ (names_ok zw1 zw4 (by omega) (by omega) hm)
    rw [List.length_map, List.length_range]

/-! _law_operations -/
def sp_u_law_operations : Sp := fun vs H Q _ => ∃ (s l : Addr), vs = [.ref s] ∧ St H s l ∧ ∀ o fs H', But s H H' → St H' s l → H o = none → Ops H' o fs → Q (.ref o) H'
theorem ok_u_law_operations (T : Tx K mg A) : FnOk P w K mg base CX0 (6) A.a_u_law_operations A.d_u_law_operations ["state"] sp_u_law_operations := by
  have G_u_law_draw := ok_u_law_draw (P := P) (w := w) (base := base) T
  have G_u_law_names := ok_u_law_names (P := P) (w := w) (base := base) T
  refine T.F_u_law_operations.ok sc_u_law_operations (fun vs H Q E h => ?_) (fun cdv Ar outer s0 H vs Q E hr h => ?_)
  · obtain ⟨s, l, rfl, _⟩ := h; rfl
  obtain ⟨s, l, rfl, hst, q⟩ := h
  refine ⟨_, (pss_cons (ps_set (i := 1) sc_u_law_operations.nd rfl (Or.inr rfl) (pe_call G_u_law_names (hr.mono (by omega)) rfl T.m_u_law_names T.F_u_law_names.kp T.b_u_law_names .nil pass0 (pa_cons (pv 0) (pa_cons pe_int pa_nil))))
    (pss_cons (ps_set (i := 2) sc_u_law_operations.nd rfl (Or.inr rfl) (pe_lst (pa_cons pe_int (pa_cons pe_int (pa_cons pe_int (pa_cons pe_int (pa_cons pe_int pa_nil)))))))
    (pss_one (ps_ret (pe_lc (own := [("k", 3)]) (by rfl) sc_u_law_operations.nd (pi_range1 rfl T.n_range (pa_cons (pe_op op_add pe_int (pe_call G_u_law_draw (hr.mono (by omega)) rfl T.m_u_law_draw T.F_u_law_draw.kp T.b_u_law_draw .nil pass0 (pa_cons (pv 0) (pa_cons pe_int pa_nil)))) pa_nil)) (blkOk_by (own := [("k", 3)]) (N := ["state", "names", "arities", "k"]) (sc := defScope s_u_law_operations) (by decide +kernel)) (fun _ _ _ _ _ => (pg_name (i := 3) sc_u_law_operations.nd rfl (Or.inl rfl))) (fun _ _ _ _ _ => pts_nil) (fun _ _ _ _ _ => (pe_tup (pa_cons (pe_ix (r := rIxL K) ix_list (pv 1) (pv 3) (fun _ _ => rfl)) (pa_cons (pe_ix (r := rIxL K) ix_list (pv 2) (pv 3) (fun _ _ => rfl)) pa_nil))))))))), ?_⟩
  walk_at "rd"
  refine ⟨s, l, 5, rfl, hst, by decide, fun p fs H1 b1 st1 np hp hl hn => ?_⟩
  walk_at "rd"
  refine ⟨by show 5 ≤ sizeLine; decide, ?_⟩
  first | intro ra n2 | refine fun ra n2 => ?_
  generalize ehn : upd H1 ra _ = H2
  have s2 := J.al_same n2 ehn
  have h2 := J.al_at ehn
  clear ehn
  walk_at "rd"
  have st2 := st1.same s2
  refine ⟨s, l, 2, rfl, st2, by decide, by decide, fun r H3 r0 r1 b3 st3 => ?_⟩
  obtain ⟨n, rfl⟩ := Int.eq_ofNat_of_zero_le r0
  walk_at "rd"
  refine ⟨by omega, by omega, fun D hD => ?_⟩
  obtain ⟨sD, lD⟩ := st3.free hD
  have bb := b1.trans ((but_same s2).trans b3)
  have hD0 : H D = none := by
    cases e : H D with
    | none => rfl
    | some o =>
      have := bb _ _ e sD.symm
      rw [hD] at this; cases this
  have nra : ra ≠ s := (st1.free n2).1.symm
  have hp3 : H3 p = some (.lst (fs.map V.str)) := b3 _ _ (s2 _ _ hp) fun z => by
    rw [z] at np
    exact (hst.free np).1 rfl
  have hra3 := b3 _ _ h2 nra
  refine lc_range (lo := 0) (n := 4 + n) (fun i H' => ∃ as : List Addr, H' D = some (.lst (as.map V.ref)) ∧ as.length = i ∧ Same H3 H' ∧ ∀ (k : Nat) (f : Str) (a : Addr), fs[k]? = some f → as[k]? = some a → H' a = some (.tup [.str f, .int (ar k)])) ?_ ?_ ?_
  · exact ⟨[], upd_same, rfl, same_new hD _, fun k f a _ e => by simp at e⟩
  · rintro i H6 hi ⟨as, hD6, hl6, s6, ht⟩
    refine ⟨rfl, ?_⟩
    have hi5 : i < fs.length := by omega
    have gf : (fs.map V.str)[i]? = some (.str fs[i]) := by rw [List.getElem?_map, List.getElem?_eq_getElem hi5]; rfl
    have e0 : (0 : Int) + (i : Int) = (i : Int) := by omega
    walk_at "rd"
    refine ⟨p, _, _, _, rfl, rfl, SqL.of (s6 _ _ hp3), by rw [e0]; exact atI_nat gf, ?_⟩
    walk_at "rd"
    have ga : ([.int 0, .int 0, .int 1, .int 2, .int 3] : List V)[i]? = some (.int (ar i)) := by
      match i, hi5, hl with
      | 0, _, _ => rfl
      | 1, _, _ => rfl
      | 2, _, _ => rfl
      | 3, _, _ => rfl
      | 4, _, _ => rfl
      | j + 5, h5, hl => omega
    refine ⟨ra, _, _, _, rfl, rfl, SqL.of (s6 _ _ hra3), by rw [e0]; exact atI_nat ga, ?_⟩
    walk_at "rd"
    refine ⟨by show 2 ≤ sizeLine; decide, ?_⟩
    first | intro t n7 | refine fun t n7 => ?_
    generalize ehn : upd H6 t _ = H7
    have s7 := J.al_same n7 ehn
    have h7 := J.al_at ehn
    clear ehn
    refine ⟨_, s7 _ _ hD6, ?_, as ++ [t], ?_, ?_, ?_, ?_⟩
    · rw [List.length_map]; exact Nat.lt_of_le_of_lt (show as.length ≤ 5 by omega) (by decide)
    · rw [upd_same, List.map_append]; rfl
    · rw [List.length_append, hl6]; rfl
    · exact same_mut (s6.trans s7) hD _
    · intro k f a hf ha
      have ntD : ∀ b xs, H7 b = some (.tup xs) → b ≠ D := fun b xs e z => by
        rw [z, s7 _ _ hD6] at e; cases e
      by_cases hk : k < as.length
      · rw [List.getElem?_append_left hk] at ha
        have q := s7 _ _ (ht k f a hf ha)
        rw [upd_ne (ntD _ _ q)]; exact q
      · have ek : k = i := by
          have := (List.getElem?_eq_some_iff.mp ha).1
          rw [List.length_append, List.length_singleton] at this
          omega
        subst ek
        rw [List.getElem?_append_right (by omega), hl6, Nat.sub_self] at ha
        have ea : t = a := by simpa using ha
        subst ea
        rw [List.getElem?_eq_getElem hi5] at hf
        injection hf with hf
        subst hf
        rw [upd_ne (ntD _ _ h7)]; exact h7
  · rintro H6 ⟨as, hD6, hl6, s6, ht⟩
    have hn' : Names (fs.take (4 + n)) := ⟨fun f h => hn.low f (List.mem_of_mem_take h), fun f h => hn.lo f (List.mem_of_mem_take h), fun f h => hn.hi f (List.mem_of_mem_take h), hn.nd.sublist (List.take_sublist _ _)⟩
    have hl' : (fs.take (4 + n)).length = 4 + n := by rw [List.length_take, hl]; omega
    refine q D (fs.take (4 + n)) H6 (bb.trans (but_same s6)) (st3.same s6) hD0 ⟨hn', by omega, as, hD6, by omega, fun k f a hf ha => ?_⟩
    have hk : k < 4 + n := by
      have := (List.getElem?_eq_some_iff.mp ha).1
      omega
    rw [List.getElem?_take_of_lt hk] at hf
    exact ht k f a hf ha

/-! _law_leaf -/
def sp_u_law_leaf : Sp := fun vs H Q _ => ∃ (s l o : Addr) (fs : List Str) (B : Int), vs = [.ref s, .ref o, .int B] ∧ St H s l ∧ Ops H o fs ∧ 0 ≤ B ∧ B < 1073741824 ∧ ∀ v t H', But s H H' → St H' s l → TmIn H' t v → t.wf fs B → t.dep ≤ 1 → t.sz = 1 → Q v H'
theorem ok_u_law_leaf (T : Tx K mg A) : FnOk P w K mg base CX0 (4) A.a_u_law_leaf A.d_u_law_leaf ["state", "operations", "count"] sp_u_law_leaf := by
  have G_u_law_draw := ok_u_law_draw (P := P) (w := w) (base := base) T
  refine T.F_u_law_leaf.ok sc_u_law_leaf (fun vs H Q E h => ?_) (fun cdv Ar outer s0 H vs Q E hr h => ?_)
  · obtain ⟨s, l, o, fs, B, rfl, _⟩ := h; rfl
  obtain ⟨s, l, o, fs, B, rfl, hst, hop, B0, B1, q⟩ := h
  refine ⟨_, (pss_cons (ps_if (PW.pt (pw_and (pt_cmpR op_gt (pv 2) pe_int (nomark _)) (pw_and1 (pt_cmpR op_eq (pe_call G_u_law_draw (hr.mono (by omega)) rfl T.m_u_law_draw T.F_u_law_draw.kp T.b_u_law_draw .nil pass0 (pa_cons (pv 0) (pa_cons pe_int pa_nil))) pe_int (nomark _))))) (pss_one (ps_ret (pe_call G_u_law_draw (hr.mono (by omega)) rfl T.m_u_law_draw T.F_u_law_draw.kp T.b_u_law_draw .nil pass0 (pa_cons (pv 0) (pa_cons (pv 2) pa_nil))))) pss_nil)
    (pss_one (ps_ret (pe_tup (pa_cons (pe_ix (r := rIxT K) ix_tup (pe_ix (r := rIxL K) ix_list (pv 1) (pe_call G_u_law_draw (hr.mono (by omega)) rfl T.m_u_law_draw T.F_u_law_draw.kp T.b_u_law_draw .nil pass0 (pa_cons (pv 0) (pa_cons pe_int pa_nil))) (fun _ _ => rfl)) pe_int (fun _ _ => rfl)) pa_nil))))), ?_⟩
  refine seq_join (fun σ' H' => σ' = [some (.ref s), some (.ref o), some (.int B)] ∧ But s H H' ∧ St H' s l) ?_ (fun N cont => ?_)
  · rintro σ' H1 ⟨rfl, b1, st1⟩
    have op1 := hop.but hst b1
    walk_at "rd"
    refine ⟨s, l, 2, rfl, st1, by decide, by decide, fun r H2 r0 r1 b2 st2 => ?_⟩
    have op2 := op1.but st1 b2
    obtain ⟨n, rfl⟩ := Int.eq_ofNat_of_zero_le r0
    obtain ⟨xs, a, f, ho, hl, hx, hf, ha⟩ := op2.get (k := n) (by have := op2.2.1; omega)
    refine ⟨o, _, _, _, rfl, rfl, SqL.of ho, atI_nat hx, ?_⟩
    walk_at "rd"
    refine ⟨by show 1 ≤ sizeLine; decide, ?_⟩
    first | intro p n3 | refine fun p n3 => ?_
    generalize ehn : upd H2 p _ = H3
    have s3 := J.al_same n3 ehn
    have h3 := J.al_at ehn
    clear ehn
    refine q (.ref p) (.app f []) H3 (b1.trans (b2.trans (but_same s3))) (st2.same s3) ⟨p, [], rfl, h3, rfl⟩ ⟨⟨n, hf, ?_⟩, trivial⟩ (Nat.le_refl _) rfl
    show 0 = ar n
    unfold ar
    rw [if_pos (by omega)]
  · walk_at "rd"
    refine ite2 (fun e => ?_) (fun e => ?_)
    · have e := of_decide_eq_true e
      walk_at "rd"
      refine ⟨s, l, 2, rfl, hst, by decide, by decide, fun r H2 r0 r1 b2 st2 => ?_⟩
      walk_at "rd"
      refine ite2 (fun e2 => ?_) (fun e2 => ?_)
      · walk_at "rd"
        refine ⟨s, l, B, rfl, st2, by omega, B1, fun r3 H3 r30 r31 b3 st3 => ?_⟩
        exact q _ (.var r3) H3 (b2.trans b3) st3 rfl ⟨r30, r31⟩ (Nat.le_refl _) rfl
      · exact cont _ _ ⟨rfl, b2, st2⟩
    · exact cont _ _ ⟨rfl, But.refl _ _, hst⟩

/-! _law_term -/
def sp_u_law_term (N : Nat) : Sp := fun vs H Q _ => ∃ (s l o : Addr) (fs : List Str) (B : Int) (h : Nat), h < N ∧ vs = [.ref s, .ref o, .int B, .int (h : Int)] ∧ St H s l ∧ Ops H o fs ∧ 0 ≤ B ∧ B < 1073741824 ∧
  ∀ v t H', But s H H' → St H' s l → TmIn H' t v → t.wf fs B → t.dep ≤ h + 1 → 2 * t.sz + 1 ≤ 3 ^ (h + 1) → Q v H'
theorem st_u_law_term (T : Tx K mg A) (N : Nat) (G_u_law_term : FnOk P w K mg base CX0 (N + 5) A.a_u_law_term A.d_u_law_term ["state", "operations", "count", "height"] (sp_u_law_term N)) : FnOk P w K mg base CX0 (N + 6) A.a_u_law_term A.d_u_law_term ["state", "operations", "count", "height"] (sp_u_law_term (N + 1)) := by
  have G_u_law_draw := ok_u_law_draw (P := P) (w := w) (base := base) T
  have G_u_law_leaf := ok_u_law_leaf (P := P) (w := w) (base := base) T
  refine T.F_u_law_term.ok sc_u_law_term (fun vs H Q E h => ?_) (fun cdv Ar outer s0 H vs Q E hr h => ?_)
  · obtain ⟨s, l, o, fs, B, h, hN, rfl, _⟩ := h; rfl
  obtain ⟨s, l, o, fs, B, h, hN, rfl, hst, hop, B0, B1, q⟩ := h
  refine ⟨_, (pss_cons (ps_if (PW.pt (pw_or (pt_cmpR op_eq (pv 3) pe_int (nomark _)) (pw_or1 (pt_cmpR op_eq (pe_call G_u_law_draw (hr.mono (by omega)) rfl T.m_u_law_draw T.F_u_law_draw.kp T.b_u_law_draw .nil pass0 (pa_cons (pv 0) (pa_cons pe_int pa_nil))) pe_int (nomark _))))) (pss_one (ps_ret (pe_call G_u_law_leaf (hr.mono (by omega)) rfl T.m_u_law_leaf T.F_u_law_leaf.kp T.b_u_law_leaf .nil pass0 (pa_cons (pv 0) (pa_cons (pv 1) (pa_cons (pv 2) pa_nil)))))) pss_nil)
    (pss_cons (ps_asg (pe_ix (r := rIxL K) ix_list (pv 1) (pe_op op_add pe_int (pe_call G_u_law_draw (hr.mono (by omega)) rfl T.m_u_law_draw T.F_u_law_draw.kp T.b_u_law_draw .nil pass0 (pa_cons (pv 0) (pa_cons (pe_op op_sub (pe_callB (r := rLenS K) j_len (by rfl) T.n_len PySem.boot_len (pa_cons (pv 1) pa_nil)) pe_int) pa_nil)))) (fun _ _ => rfl)) (pg_tup (by rfl) (pgs_cons (pg_name (i := 4) sc_u_law_term.nd rfl (Or.inl rfl)) (pgs_cons (pg_name (i := 5) sc_u_law_term.nd rfl (Or.inl rfl)) pgs_nil))))
    (pss_cons (ps_set (i := 6) sc_u_law_term.nd rfl (Or.inl rfl) (pe_tup (pa_cons (pv 4) pa_nil)))
    (pss_cons (ps_for PassesOwn.never rfl (pi_range1 rfl T.n_range (pa_cons (pv 5) pa_nil)) (pg_name (i := 7) sc_u_law_term.nd rfl (Or.inl rfl)) (pss_one (ps_set (i := 6) sc_u_law_term.nd rfl (Or.inl rfl) (pe_op (r := rCatT K) op_catT (pv 6) (pe_tup (pa_cons (pe_call G_u_law_term (hr.mono (by omega)) rfl T.m_u_law_term T.F_u_law_term.kp T.b_u_law_term .nil pass0 (pa_cons (pv 0) (pa_cons (pv 1) (pa_cons (pv 2) (pa_cons (pe_op op_sub (pv 3) pe_int) pa_nil))))) pa_nil))))))
    (pss_one (ps_ret (pv 6))))))), ?_⟩
  refine seq_join (fun σ' H' => σ' = [some (.ref s), some (.ref o), some (.int B), some (.int (h : Int)), none, none, none, none] ∧ But s H H' ∧ St H' s l ∧ 1 ≤ h) ?_ (fun N' cont => ?_)
  · rintro σ' H1 ⟨rfl, b1, st1, h1⟩
    have op1 := hop.but hst b1
    have hfl := op1.2.1
    obtain ⟨xs1, _, _, ho1, hxl, _⟩ := op1.get (k := 0) (by omega)
    walk_at "rd"
    refine ⟨s, l, _, rfl, st1, by show (1 : Int) ≤ (xs1.length : Int) - 2; omega, by show (xs1.length : Int) - 2 < _; omega, fun r H2 r0 r1 b2 st2 => ?_⟩
    have r1 : r < (xs1.length : Int) - 2 := r1
    have op2 := op1.but st1 b2
    obtain ⟨n, rfl⟩ := Int.eq_ofNat_of_zero_le r0
    obtain ⟨xs, a, f, ho, hl, hx, hf, ha⟩ := op2.get (k := n + 2) (by omega)
    have e2 : (2 : Int) + (n : Int) = ((n + 2 : Nat) : Int) := by omega
    refine ⟨_, _, rfl, rfl, ?_⟩
    refine ⟨o, _, _, _, rfl, rfl, SqL.of ho, by rw [e2]; exact atI_nat hx, ?_⟩
    refine ⟨a, _, rfl, SqT.of ha, rfl, _, _, rfl, _, _, rfl, rfl, ?_⟩
    walk_at "rd"
    refine ⟨by show 1 ≤ sizeLine; decide, ?_⟩
    first | intro p n3 | refine fun p n3 => ?_
    generalize ehn : upd H2 p _ = H3
    have s3 := J.al_same n3 ehn
    have h3 := J.al_at ehn
    clear ehn
    have har : ar (n + 2) = n + 1 := ar_two (by omega)
    have st3 := st2.same s3
    have op3 := op2.same s3
    walk_at "rd"
    refine ⟨by omega, by omega, for_range (lo := 0) (n := ar (n + 2)) (fun i σ' H' => ∃ p ts vs x, σ' = [some (.ref s), some (.ref o), some (.int B), some (.int (h : Int)), some (.str f), some (.int (ar (n + 2) : Int)), some (.ref p), x] ∧ H' p = some (.tup (.str f :: vs)) ∧ TmsIn H' ts vs ∧ ts.length = i ∧ (∀ t ∈ ts, t.wf fs B ∧ t.dep ≤ h ∧ 2 * t.sz + 1 ≤ 3 ^ h) ∧ But s H3 H' ∧ St H' s l) ?_ ?_ ?_⟩
    · exact ⟨p, [], [], none, rfl, h3, rfl, rfl, (fun t ht => nomatch ht), But.refl _ _, st3⟩
    · rintro i σ' H4 hi ⟨p, ts, vs, x, rfl, hp, hts, hl', hw, b4, st4⟩
      walk_at "rd"
      refine ⟨s, l, o, fs, B, h - 1, by omega, by have e : ((h - 1 : Nat) : Int) = (h : Int) - 1 := by omega
                                                  rw [e]; rfl, st4, op3.but st3 b4, B0, B1, fun v t H5 b5 st5 ht htw htd hts' => ?_⟩
      refine ⟨by show 1 ≤ sizeLine; decide, ?_⟩
      first | intro u n6 | refine fun u n6 => ?_
      generalize ehn : upd H5 u _ = H6
      have s6 := J.al_same n6 ehn
      have h6 := J.al_at ehn
      clear ehn
      have tu45 := st4.tu b5
      have hlen : vs.length = i := by rw [hts.length, hl']
      refine ⟨p, u, _, _, rfl, rfl, SqT.of (s6 _ _ (tu45 _ _ hp)), SqT.of h6, List.cons_ne_nil _ _, ?_, fun z => absurd z (List.cons_ne_nil _ _), fun _ => ?_⟩
      · rw [List.length_cons, hlen]
        exact Nat.le_trans (show i + 1 + 1 ≤ 10 by omega) (by decide)
      first | intro y n7 | refine fun y n7 => ?_
      generalize ehn : upd H6 y _ = H7
      have s7 := J.al_same n7 ehn
      have h7 := J.al_at ehn
      clear ehn
      have tu67 : Tu H4 H7 := tu45.trans ((tu_same s6).trans (tu_same s7))
      refine ⟨y, ts ++ [t], vs ++ [v], _, rfl, h7, (hts.tu tu67).append (TmsIn.one ((ht.tu (tu_same s6)).tu (tu_same s7))), ?_, ?_, b4.trans (b5.trans ((but_same s6).trans (but_same s7))), (st5.same s6).same s7⟩
      · rw [List.length_append, hl']; rfl
      · intro t' ht'
        rcases List.mem_append.mp ht' with z | z
        · exact hw t' z
        · rw [List.mem_singleton.mp z]
          rw [show h - 1 + 1 = h by omega] at hts' htd
          exact ⟨htw, htd, hts'⟩
    · rintro σ' H4 ⟨p, ts, vs, x, rfl, hp, hts, hl', hw, b4, st4⟩
      walk_at "rd"
      refine q (.ref p) (.app f ts) H4 (b1.trans (b2.trans ((but_same s3).trans b4))) st4 ⟨p, vs, rfl, hp, hts⟩ ⟨⟨n + 2, hf, hl'⟩, Tm.wfs_of fun t ht => (hw t ht).1⟩ ?_ ?_
      · have := Tm.deps_le fun t ht => (hw t ht).2.1
        show 1 + Tm.deps ts ≤ h + 1
        omega
      · exact Tm.szs_three (by omega) fun t ht => (hw t ht).2.2
  · walk_at "rd"
    refine ite2 (fun e => ?_) (fun e => ?_)
    · walk_at "rd"
      refine ⟨s, l, o, fs, B, rfl, hst, hop, B0, B1, fun v t H1 b1 st1 ht hw hd hz => q v t H1 b1 st1 ht hw (by omega) (by rw [hz]; exact Nat.pow_le_pow_right (by decide : 3 > 0) (show 1 ≤ h + 1 by omega))⟩
    · have e : ¬ V.int (h : Int) = V.int 0 := fun z => e (decide_eq_true z)
      have h1 : 1 ≤ h := by
        rcases Nat.eq_zero_or_pos h with z | z
        · rw [z] at e; exact absurd rfl e
        · exact z
      walk_at "rd"
      refine ⟨s, l, 4, rfl, hst, by decide, by decide, fun r H2 r0 r1 b2 st2 => ?_⟩
      walk_at "rd"
      refine ite2 (fun e => ?_) (fun e => ?_)
      · walk_at "rd"
        refine ⟨s, l, o, fs, B, rfl, st2, hop.but hst b2, B0, B1, fun v t H1 b1 st1 ht hw hd hz => q v t H1 (b2.trans b1) st1 ht hw (by omega) (by rw [hz]; exact Nat.pow_le_pow_right (by decide : 3 > 0) (show 1 ≤ h + 1 by omega))⟩
      · exact cont _ _ ⟨rfl, b2, st2, h1⟩

theorem all_u_law_term (T : Tx K mg A) : ∀ N : Nat, FnOk P w K mg base CX0 (N + 5) A.a_u_law_term A.d_u_law_term ["state", "operations", "count", "height"] (sp_u_law_term N)
  | 0 => fn_none fun vs H Q E h => by obtain ⟨s, l, o, fs, B, h, hN, _⟩ := h; omega
  | N + 1 => st_u_law_term T N (all_u_law_term T N)
theorem ok_u_law_term (T : Tx K mg A) : FnOk P w K mg base CX0 10 A.a_u_law_term A.d_u_law_term ["state", "operations", "count", "height"] (sp_u_law_term 5) := all_u_law_term T 5

/-! _law_app -/
def sp_u_law_app : Sp := fun vs H Q _ => ∃ (s l o : Addr) (fs : List Str) (B : Int) (h : Nat), vs = [.ref s, .ref o, .int B, .int (h : Int)] ∧ h < 5 ∧ St H s l ∧ Ops H o fs ∧ 0 ≤ B ∧ B < 1073741824 ∧
  ∀ v t H', But s H H' → St H' s l → TmIn H' t v → t.wf fs B → t.dep ≤ h + 2 → 2 * t.sz + 1 ≤ 3 ^ (h + 2) → (∃ f ts, t = .app f ts) → Q v H'
theorem ok_u_law_app (T : Tx K mg A) : FnOk P w K mg base CX0 (11) A.a_u_law_app A.d_u_law_app ["state", "operations", "count", "height"] sp_u_law_app := by
  have G_u_law_draw := ok_u_law_draw (P := P) (w := w) (base := base) T
  have G_u_law_term := ok_u_law_term (P := P) (w := w) (base := base) T
  refine T.F_u_law_app.ok sc_u_law_app (fun vs H Q E h => ?_) (fun cdv Ar outer s0 H vs Q E hr h => ?_)
  · obtain ⟨s, l, o, fs, B, h, rfl, _⟩ := h; rfl
  obtain ⟨s, l, o, fs, B, h, rfl, hN, hst, hop, B0, B1, q⟩ := h
  refine ⟨_, (pss_cons (ps_if (pt_cmpR op_eq (pe_call G_u_law_draw (hr.mono (by omega)) rfl T.m_u_law_draw T.F_u_law_draw.kp T.b_u_law_draw .nil pass0 (pa_cons (pv 0) (pa_cons pe_int pa_nil))) pe_int (nomark _)) (pss_one (ps_ret (pe_tup (pa_cons (pe_ix (r := rIxT K) ix_tup (pe_ix (r := rIxL K) ix_list (pv 1) (pe_call G_u_law_draw (hr.mono (by omega)) rfl T.m_u_law_draw T.F_u_law_draw.kp T.b_u_law_draw .nil pass0 (pa_cons (pv 0) (pa_cons pe_int pa_nil))) (fun _ _ => rfl)) pe_int (fun _ _ => rfl)) pa_nil)))) pss_nil)
    (pss_cons (ps_asg (pe_ix (r := rIxL K) ix_list (pv 1) (pe_op op_add pe_int (pe_call G_u_law_draw (hr.mono (by omega)) rfl T.m_u_law_draw T.F_u_law_draw.kp T.b_u_law_draw .nil pass0 (pa_cons (pv 0) (pa_cons (pe_op op_sub (pe_callB (r := rLenS K) j_len (by rfl) T.n_len PySem.boot_len (pa_cons (pv 1) pa_nil)) pe_int) pa_nil)))) (fun _ _ => rfl)) (pg_tup (by rfl) (pgs_cons (pg_name (i := 4) sc_u_law_app.nd rfl (Or.inl rfl)) (pgs_cons (pg_name (i := 5) sc_u_law_app.nd rfl (Or.inl rfl)) pgs_nil))))
    (pss_cons (ps_set (i := 6) sc_u_law_app.nd rfl (Or.inl rfl) (pe_tup (pa_cons (pv 4) pa_nil)))
    (pss_cons (ps_for PassesOwn.never rfl (pi_range1 rfl T.n_range (pa_cons (pv 5) pa_nil)) (pg_name (i := 7) sc_u_law_app.nd rfl (Or.inl rfl)) (pss_one (ps_set (i := 6) sc_u_law_app.nd rfl (Or.inl rfl) (pe_op (r := rCatT K) op_catT (pv 6) (pe_tup (pa_cons (pe_call G_u_law_term (hr.mono (by omega)) rfl T.m_u_law_term T.F_u_law_term.kp T.b_u_law_term .nil pass0 (pa_cons (pv 0) (pa_cons (pv 1) (pa_cons (pv 2) (pa_cons (pv 3) pa_nil))))) pa_nil))))))
    (pss_one (ps_ret (pv 6))))))), ?_⟩
  refine seq_join (fun σ' H' => σ' = [some (.ref s), some (.ref o), some (.int B), some (.int (h : Int)), none, none, none, none] ∧ But s H H' ∧ St H' s l) ?_ (fun N' cont => ?_)
  · rintro σ' H1 ⟨rfl, b1, st1⟩
    have op1 := hop.but hst b1
    have hfl := op1.2.1
    obtain ⟨xs1, _, _, ho1, hxl, _⟩ := op1.get (k := 0) (by omega)
    walk_at "rd"
    refine ⟨s, l, _, rfl, st1, by show (1 : Int) ≤ (xs1.length : Int) - 2; omega, by show (xs1.length : Int) - 2 < _; omega, fun r H2 r0 r1 b2 st2 => ?_⟩
    have r1 : r < (xs1.length : Int) - 2 := r1
    have op2 := op1.but st1 b2
    obtain ⟨n, rfl⟩ := Int.eq_ofNat_of_zero_le r0
    obtain ⟨xs, a, f, ho, hl, hx, hf, ha⟩ := op2.get (k := n + 2) (by omega)
    have e2 : (2 : Int) + (n : Int) = ((n + 2 : Nat) : Int) := by omega
    refine ⟨_, _, rfl, rfl, ?_⟩
    refine ⟨o, _, _, _, rfl, rfl, SqL.of ho, by rw [e2]; exact atI_nat hx, ?_⟩
    refine ⟨a, _, rfl, SqT.of ha, rfl, _, _, rfl, _, _, rfl, rfl, ?_⟩
    walk_at "rd"
    refine ⟨by show 1 ≤ sizeLine; decide, ?_⟩
    first | intro p n3 | refine fun p n3 => ?_
    generalize ehn : upd H2 p _ = H3
    have s3 := J.al_same n3 ehn
    have h3 := J.al_at ehn
    clear ehn
    have har : ar (n + 2) = n + 1 := ar_two (by omega)
    have st3 := st2.same s3
    have op3 := op2.same s3
    walk_at "rd"
    refine ⟨by omega, by omega, for_range (lo := 0) (n := ar (n + 2)) (fun i σ' H' => ∃ p ts vs x, σ' = [some (.ref s), some (.ref o), some (.int B), some (.int (h : Int)), some (.str f), some (.int (ar (n + 2) : Int)), some (.ref p), x] ∧ H' p = some (.tup (.str f :: vs)) ∧ TmsIn H' ts vs ∧ ts.length = i ∧ (∀ t ∈ ts, t.wf fs B ∧ t.dep ≤ h + 1 ∧ 2 * t.sz + 1 ≤ 3 ^ (h + 1)) ∧ But s H3 H' ∧ St H' s l) ?_ ?_ ?_⟩
    · exact ⟨p, [], [], none, rfl, h3, rfl, rfl, (fun t ht => nomatch ht), But.refl _ _, st3⟩
    · rintro i σ' H4 hi ⟨p, ts, vs, x, rfl, hp, hts, hl', hw, b4, st4⟩
      walk_at "rd"
      refine ⟨s, l, o, fs, B, h, by omega, rfl, st4, op3.but st3 b4, B0, B1, fun v t H5 b5 st5 ht htw htd hts' => ?_⟩
      refine ⟨by show 1 ≤ sizeLine; decide, ?_⟩
      first | intro u n6 | refine fun u n6 => ?_
      generalize ehn : upd H5 u _ = H6
      have s6 := J.al_same n6 ehn
      have h6 := J.al_at ehn
      clear ehn
      have tu45 := st4.tu b5
      have hlen : vs.length = i := by rw [hts.length, hl']
      refine ⟨p, u, _, _, rfl, rfl, SqT.of (s6 _ _ (tu45 _ _ hp)), SqT.of h6, List.cons_ne_nil _ _, ?_, fun z => absurd z (List.cons_ne_nil _ _), fun _ => ?_⟩
      · rw [List.length_cons, hlen]
        exact Nat.le_trans (show i + 1 + 1 ≤ 10 by omega) (by decide)
      first | intro y n7 | refine fun y n7 => ?_
      generalize ehn : upd H6 y _ = H7
      have s7 := J.al_same n7 ehn
      have h7 := J.al_at ehn
      clear ehn
      have tu67 : Tu H4 H7 := tu45.trans ((tu_same s6).trans (tu_same s7))
      refine ⟨y, ts ++ [t], vs ++ [v], _, rfl, h7, (hts.tu tu67).append (TmsIn.one ((ht.tu (tu_same s6)).tu (tu_same s7))), ?_, ?_, b4.trans (b5.trans ((but_same s6).trans (but_same s7))), (st5.same s6).same s7⟩
      · rw [List.length_append, hl']; rfl
      · intro t' ht'
        rcases List.mem_append.mp ht' with z | z
        · exact hw t' z
        · rw [List.mem_singleton.mp z]
          exact ⟨htw, htd, hts'⟩
    · rintro σ' H4 ⟨p, ts, vs, x, rfl, hp, hts, hl', hw, b4, st4⟩
      walk_at "rd"
      refine q (.ref p) (.app f ts) H4 (b1.trans (b2.trans ((but_same s3).trans b4))) st4 ⟨p, vs, rfl, hp, hts⟩ ⟨⟨n + 2, hf, hl'⟩, Tm.wfs_of fun t ht => (hw t ht).1⟩ ?_ ?_ ⟨_, _, rfl⟩
      · have := Tm.deps_le fun t ht => (hw t ht).2.1
        show 1 + Tm.deps ts ≤ h + 2
        omega
      · exact Tm.szs_three (by omega) fun t ht => (hw t ht).2.2
  · walk_at "rd"
    refine ⟨s, l, 6, rfl, hst, by decide, by decide, fun r H2 r0 r1 b2 st2 => ?_⟩
    walk_at "rd"
    refine ite2 (fun e => ?_) (fun e => ?_)
    · walk_at "rd"
      refine ⟨s, l, 2, rfl, st2, by decide, by decide, fun r H3 r0 r1 b3 st3 => ?_⟩
      have op3 := (hop.but hst b2).but st2 b3
      obtain ⟨n, rfl⟩ := Int.eq_ofNat_of_zero_le r0
      obtain ⟨xs, a, f, ho, hl, hx, hf, ha⟩ := op3.get (k := n) (by have := op3.2.1; omega)
      refine ⟨o, _, _, _, rfl, rfl, SqL.of ho, atI_nat hx, ?_⟩
      walk_at "rd"
      refine ⟨by show 1 ≤ sizeLine; decide, ?_⟩
      first | intro p n4 | refine fun p n4 => ?_
      generalize ehn : upd H3 p _ = H4
      have s4 := J.al_same n4 ehn
      have h4 := J.al_at ehn
      clear ehn
      refine q (.ref p) (.app f []) H4 (b2.trans (b3.trans (but_same s4))) (st3.same s4) ⟨p, [], rfl, h4, rfl⟩ ⟨⟨n, hf, ?_⟩, trivial⟩ (by show 1 ≤ h + 2; omega) ?_ ⟨_, _, rfl⟩
      · show 0 = ar n
        unfold ar
        rw [if_pos (by omega)]
      · show 2 * 1 + 1 ≤ _
        exact Nat.le_trans (show 3 ≤ 3 ^ 1 by decide) (Nat.pow_le_pow_right (by decide) (by omega))
    · exact cont _ _ ⟨rfl, b2, st2⟩

/-! _law_variables -/
def sp_u_law_variables (N : Nat) : Sp := fun vs H Q _ => ∃ (v : V) (t : Tm), vs = [v] ∧ TmIn H t v ∧ t.sz ≤ 100000 ∧ t.dep ≤ N ∧ ∀ p H', Same H H' → H p = none → H' p = some (.lst ((vars t).map V.int)) → Q (.ref p) H'
theorem st_u_law_variables (T : Tx K mg A) (N : Nat) (G_u_law_variables : FnOk P w K mg base CX0 (N + 1) A.a_u_law_variables A.d_u_law_variables ["term"] (sp_u_law_variables N)) : FnOk P w K mg base CX0 (N + 2) A.a_u_law_variables A.d_u_law_variables ["term"] (sp_u_law_variables (N + 1)) := by

  refine T.F_u_law_variables.ok sc_u_law_variables (fun vs H Q E h => ?_) (fun cdv Ar outer s0 H vs Q E hr h => ?_)
  · obtain ⟨v, t, rfl, _⟩ := h; rfl
  obtain ⟨v, t, rfl, ht, hz, hd, q⟩ := h
  refine ⟨_, (pss_cons (ps_if (pt_val (pe_callB (r := rIsi K) call_isi (by rfl) T.n_isinstance boot_isinstance (pa_cons (pv 0) (pa_cons (pe_bltn (v := .ty "int") (by rfl) T.n_int boot_int rfl) pa_nil)))) (pss_one (ps_ret (pe_lst (pa_cons (pv 0) pa_nil)))) pss_nil)
    (pss_cons (ps_set (i := 1) sc_u_law_variables.nd rfl (Or.inl rfl) (pe_lst pa_nil))
    (pss_cons (ps_for PassesOwn.never rfl (pi_tup (pe_slice (r := rSlT K) sl_tup (pv 0) (po_some pe_int) po_none)) (pg_name (i := 2) sc_u_law_variables.nd rfl (Or.inl rfl)) (pss_one (ps_for PassesOwn.never rfl (pi_list (pe_call G_u_law_variables (hr.mono (by omega)) rfl T.m_u_law_variables T.F_u_law_variables.kp T.b_u_law_variables .nil pass0 (pa_cons (pv 2) pa_nil))) (pg_name (i := 3) sc_u_law_variables.nd rfl (Or.inl rfl)) (pss_one (ps_if (pt_cmpR (r := rIn K true) op_notIn_seq (pv 3) (pv 1) rfl) (pss_one (ps_expr (pe_bm PySem.F.plainAttrs_list PySem.F.slot_list_append PySem.F.type_list_append mt_append (pv 1) (pa_cons (pv 3) pa_nil)))) pss_nil)))))
    (pss_one (ps_ret (pv 1)))))), ?_⟩
  cases t with
  | var n =>
    cases (show v = .int n from ht)
    walk_at "rd"
    walk_at "isi"
    walk_at "rd"
    refine ⟨by show 1 ≤ sizeLine; decide, ?_⟩
    first | intro p n1 | refine fun p n1 => ?_
    generalize ehn : upd H p _ = H1
    have s1 := J.al_same n1 ehn
    have h1 := J.al_at ehn
    clear ehn
    exact q p H1 s1 n1 h1
  | app f ts =>
    obtain ⟨a, vs, rfl, ha, hts⟩ := ht
    walk_at "rd"
    walk_at "isi"
    walk_at "rd"
    refine ⟨by show 0 ≤ sizeLine; decide, ?_⟩
    first | intro p n1 | refine fun p n1 => ?_
    generalize ehn : upd H p _ = H1
    have s1 := J.al_same n1 ehn
    have h1 := J.al_at ehn
    clear ehn
    have ha1 := s1 _ _ ha
    walk_at "rd"
    walk_at "sl1"
    first | intro u n2 | refine fun u n2 => ?_
    generalize ehn : upd H1 u _ = H2
    have s2 := J.al_same n2 ehn
    have h2 := J.al_at ehn
    clear ehn
    have hts2 := (hts.tu (tu_same s1)).tu (tu_same s2)
    have hp2 := s2 _ _ h1
    have hvl := hts.length
    have hz : 1 + Tm.szs ts ≤ 100000 := hz
    have nup : u ≠ p := fun z => by rw [z, h1] at n2; cases n2
    refine ⟨_, rfl, ⟨_, SqT.of h2⟩, for_tup (xs := vs) (fun i σ' H' => ∃ x x2, σ' = [some (.ref a), some (.ref p), x, x2] ∧ H' p = some (.lst ((adds [] (occs (ts.take i))).map V.int)) ∧ But p H2 H') ?_ ?_ ?_ ?_⟩
    · exact ⟨none, none, rfl, hp2, But.refl _ _⟩
    · rintro i σ' H' hi ⟨x, x2, rfl, hp, b⟩
      exact SqT.of (b _ _ h2 nup)
    · rintro i y σ' H' hi ⟨x, x2, rfl, hp, b⟩
      obtain ⟨t, gt, ht⟩ := hts2.get hi
      have mt : t ∈ ts := List.mem_of_getElem? gt
      have hst := Tm.sz_arg mt
      have tub : Tu H2 H' := but_tu b (lst_not_tup hp2)
      walk_at "rd"
      refine ⟨y, t, rfl, ht.tu tub, by omega, TmIn.dep_arg hd mt, fun p3 H3 s3 n3 h3 => ?_⟩
      have hp3 := s3 _ _ hp
      have n33 : p3 ≠ p := fun z => by rw [z, hp] at n3; cases n3
      have hvt : (vars t).length ≤ 100000 := by
        have h1 := adds_len (occ t) []
        have h2 := occ_len t
        have h1 : (vars t).length ≤ 0 + _ := h1
        omega
      refine ⟨_, rfl, ⟨_, SqL.of h3⟩, for_list (K := K) (a := p3) (xs := (vars t).map V.int) (fun j σ' H'' => ∃ x x2, σ' = [some (.ref a), some (.ref p), x, x2] ∧ H'' p = some (.lst ((adds (adds [] (occs (ts.take i))) ((vars t).take j)).map V.int)) ∧ But p H3 H'') ?_ ?_ ?_ ?_⟩
      · exact ⟨_, _, rfl, hp3, But.refl _ _⟩
      · rintro j σ' H'' hj ⟨x, x2, rfl, hp, b⟩
        exact SqL.of (b _ _ h3 n33)
      · rintro j y2 σ' H'' hj ⟨x, x2, rfl, hp4, b4⟩
        obtain ⟨n, gn, rfl⟩ := map_get hj
        have e : adds (adds [] (occs (ts.take i))) ((vars t).take (j + 1)) = (if n ∈ adds (adds [] (occs (ts.take i))) ((vars t).take j) then adds (adds [] (occs (ts.take i))) ((vars t).take j) else adds (adds [] (occs (ts.take i))) ((vars t).take j) ++ [n]) := by
          rw [list_take_succ gn, adds_app]; rfl
        have hl : (adds (adds [] (occs (ts.take i))) ((vars t).take j)).length ≤ 200000 := by
          have h1 := adds_len ((vars t).take j) (adds [] (occs (ts.take i)))
          have h2 := adds_len (occs (ts.take i)) []
          have h3 := occs_len (ts.take i)
          have h4 := szs_take ts i
          rw [List.length_take] at h1
          have h2 : _ ≤ 0 + _ := h2
          omega
        walk_at "rd"
        refine ⟨(by rw [List.all_map]; exact List.all_eq_true.mpr fun _ _ => rfl), _, rfl, ?_⟩
        show if (!inV (.int n) ((adds (adds [] (occs (ts.take i))) ((vars t).take j)).map V.int)) = true then _ else _
        rw [inV_ints]
        refine ifN (fun e2 => ?_) (fun e2 => ?_)
        · walk_at "rd"
          refine ⟨.inl ⟨rfl, _, SqL.of hp4⟩, _, rfl, p, _, _, rfl, rfl, hp4, by rw [List.length_map]; exact Nat.lt_of_le_of_lt hl (by decide), _, _, rfl, ?_, b4.upd _⟩
          rw [upd_same, e, if_neg e2, List.map_append]; rfl
        · walk_at "rd"
          exact ⟨_, _, rfl, by rw [hp4, e, if_pos e2], b4⟩
      · rintro σ' H'' ⟨x, x2, rfl, hp4, b4⟩
        rw [List.length_map, List.take_length] at hp4
        refine ⟨_, _, rfl, ?_, b.trans ((but_same s3).trans b4)⟩
        rw [hp4, list_take_succ gt, occs_app, adds_app]
        show _ = some (HO.lst ((adds (adds [] (occs (ts.take i))) (occ t ++ [])).map V.int))
        rw [List.append_nil]
        show some (HO.lst ((adds (adds [] (occs (ts.take i))) (adds [] (occ t))).map V.int)) = _
        rw [adds_two]
        have e0 : adds (adds [] (occs (ts.take i))) [] = adds [] (occs (ts.take i)) := rfl
        rw [e0]
    · rintro σ' H' ⟨x, x2, rfl, hp, b⟩
      rw [hvl, List.take_length] at hp
      walk_at "rd"
      exact q p H' (b.same (s1.trans s2) n1) n1 hp

theorem all_u_law_variables (T : Tx K mg A) : ∀ N : Nat, FnOk P w K mg base CX0 (N + 1) A.a_u_law_variables A.d_u_law_variables ["term"] (sp_u_law_variables N)
  | 0 => fn_none fun vs H Q E h => by obtain ⟨v, t, _, _, _, hd, _⟩ := h; have := t.dep_pos; omega
  | N + 1 => st_u_law_variables T N (all_u_law_variables T N)
theorem ok_u_law_variables (T : Tx K mg A) : FnOk P w K mg base CX0 61 A.a_u_law_variables A.d_u_law_variables ["term"] (sp_u_law_variables 60) := all_u_law_variables T 60

/-! _law_substitute -/
def sp_u_law_substitute (N : Nat) : Sp := fun vs H Q _ => ∃ (v : V) (t : Tm) (d : Addr) (m : Int → Option Tm), vs = [v, .ref d] ∧ TmIn H t v ∧ SbIn H d m ∧ t.sz ≤ 100000 ∧ t.dep ≤ N ∧ ∀ r H', Same H H' → TmIn H' (sub m t) r → Q r H'
theorem st_u_law_substitute (T : Tx K mg A) (N : Nat) (G_u_law_substitute : FnOk P w K mg base CX0 (N + 1) A.a_u_law_substitute A.d_u_law_substitute ["term", "substitution"] (sp_u_law_substitute N)) : FnOk P w K mg base CX0 (N + 2) A.a_u_law_substitute A.d_u_law_substitute ["term", "substitution"] (sp_u_law_substitute (N + 1)) := by

  refine T.F_u_law_substitute.ok sc_u_law_substitute (fun vs H Q E h => ?_) (fun cdv Ar outer s0 H vs Q E hr h => ?_)
  · obtain ⟨v, t, d, m, rfl, _⟩ := h; rfl
  obtain ⟨v, t, d, m, rfl, ht, hs, hz, hd, q⟩ := h
  refine ⟨_, (pss_cons (ps_if (pt_val (pe_callB (r := rIsi K) call_isi (by rfl) T.n_isinstance boot_isinstance (pa_cons (pv 0) (pa_cons (pe_bltn (v := .ty "int") (by rfl) T.n_int boot_int rfl) pa_nil)))) (pss_one (ps_ret (pe_dget2 (hu_of hr) (pv 1) (pv 0) (pv 0) ⟨by rfl, by rfl, by rfl, by rfl⟩))) pss_nil)
    (pss_cons (ps_set (i := 2) sc_u_law_substitute.nd rfl (Or.inl rfl) (pe_tup (pa_cons (pe_ix (r := rIxT K) ix_tup (pv 0) pe_int (fun _ _ => rfl)) pa_nil)))
    (pss_cons (ps_for PassesOwn.never rfl (pi_tup (pe_slice (r := rSlT K) sl_tup (pv 0) (po_some pe_int) po_none)) (pg_name (i := 3) sc_u_law_substitute.nd rfl (Or.inl rfl)) (pss_one (ps_set (i := 2) sc_u_law_substitute.nd rfl (Or.inl rfl) (pe_op (r := rCatT K) op_catT (pv 2) (pe_tup (pa_cons (pe_call G_u_law_substitute (hr.mono (by omega)) rfl T.m_u_law_substitute T.F_u_law_substitute.kp T.b_u_law_substitute .nil pass0 (pa_cons (pv 3) (pa_cons (pv 1) pa_nil))) pa_nil))))))
    (pss_one (ps_ret (pv 2)))))), ?_⟩
  cases t with
  | var n =>
    cases (show v = .int n from ht)
    walk_at "rd"
    walk_at "isi"
    obtain ⟨o, g, tm⟩ := hs.get n
    obtain ⟨kvs, hk⟩ := hs.at
    walk_at "rd"
    refine ⟨.inl ⟨_, .inl hk⟩, ?_⟩
    walk_at "rd"
    exact ⟨o, g, q _ H (Same.refl _) tm⟩
  | app f ts =>
    obtain ⟨a, vs, rfl, ha, hts⟩ := ht
    walk_at "rd"
    walk_at "isi"
    walk_at "rd"
    refine ⟨by show 1 ≤ sizeLine; decide, ?_⟩
    first | intro p n1 | refine fun p n1 => ?_
    generalize ehn : upd H p _ = H1
    have s1 := J.al_same n1 ehn
    have h1 := J.al_at ehn
    clear ehn
    have ha1 := s1 _ _ ha
    walk_at "rd"
    walk_at "sl1"
    first | intro u n2 | refine fun u n2 => ?_
    generalize ehn : upd H1 u _ = H2
    have s2 := J.al_same n2 ehn
    have h2 := J.al_at ehn
    clear ehn
    have hts2 := (hts.tu (tu_same s1)).tu (tu_same s2)
    have hs2 := (hs.same s1).same s2
    have hvl := hts.length
    have hz : 1 + Tm.szs ts ≤ 100000 := hz
    have hll := Tm.len_le ts
    refine ⟨_, rfl, ⟨_, SqT.of h2⟩, for_tup (xs := vs) (fun i σ' H' => ∃ p x ws, σ' = [some (.ref a), some (.ref d), some (.ref p), x] ∧ H' p = some (.tup (.str f :: ws)) ∧ TmsIn H' (subs m (ts.take i)) ws ∧ Same H2 H') ?_ ?_ ?_ ?_⟩
    · exact ⟨p, none, [], rfl, s2 _ _ h1, rfl, Same.refl _⟩
    · rintro i σ' H' hi ⟨p, x, ws, rfl, hp, hw, b⟩
      exact SqT.of (b _ _ h2)
    · rintro i y σ' H' hi ⟨p, x, ws, rfl, hp, hw, b⟩
      obtain ⟨t, gt, ht⟩ := hts2.get hi
      have mt : t ∈ ts := List.mem_of_getElem? gt
      have := Tm.sz_arg mt
      walk_at "rd"
      refine ⟨y, t, d, m, rfl, ht.tu (tu_same b), hs2.same b, by omega, TmIn.dep_arg hd mt, fun r H3 s3 hr3 => ?_⟩
      have hwl := hw.length
      have hl3 : (subs m (ts.take i)).length ≤ i := by rw [subs_map, List.length_map, List.length_take]; omega
      have hiv : i < vs.length := (List.getElem?_eq_some_iff.mp hi).1
      refine ⟨by show 1 ≤ sizeLine; decide, ?_⟩
      first | intro z n4 | refine fun z n4 => ?_
      generalize ehn : upd H3 z _ = H4
      have s4 := J.al_same n4 ehn
      have h4 := J.al_at ehn
      clear ehn
      refine ⟨p, z, _, _, rfl, rfl, SqT.of (s4 _ _ (s3 _ _ hp)), SqT.of h4, List.cons_ne_nil _ _, Nat.le_trans (show ws.length + 1 + 1 ≤ 100002 by omega) (by decide), fun z => absurd z (List.cons_ne_nil _ _), fun _ => ?_⟩
      first | intro z2 n5 | refine fun z2 n5 => ?_
      generalize ehn : upd H4 z2 _ = H5
      have s5 := J.al_same n5 ehn
      have h5 := J.al_at ehn
      clear ehn
      refine ⟨z2, _, ws ++ [r], rfl, h5, ?_, b.trans (s3.trans (s4.trans s5))⟩
      rw [list_take_succ gt, subs_map, List.map_append, ← subs_map]
      have tu35 := tu_same (s4.trans s5)
      exact ((hw.tu (tu_same s3)).tu tu35).append (TmsIn.one (hr3.tu tu35))
    · rintro σ' H' ⟨p, x, ws, rfl, hp, hw, b⟩
      rw [hvl, List.take_length] at hw
      walk_at "rd"
      exact q _ H' (s1.trans (s2.trans b)) ⟨p, ws, rfl, hp, hw⟩

theorem all_u_law_substitute (T : Tx K mg A) : ∀ N : Nat, FnOk P w K mg base CX0 (N + 1) A.a_u_law_substitute A.d_u_law_substitute ["term", "substitution"] (sp_u_law_substitute N)
  | 0 => fn_none fun vs H Q E h => by obtain ⟨v, t, d, m, _, _, _, _, hd, _⟩ := h; have := t.dep_pos; omega
  | N + 1 => st_u_law_substitute T N (all_u_law_substitute T N)
theorem ok_u_law_substitute (T : Tx K mg A) : FnOk P w K mg base CX0 61 A.a_u_law_substitute A.d_u_law_substitute ["term", "substitution"] (sp_u_law_substitute 60) := all_u_law_substitute T 60

/-! _law_rule -/
theorem put_len (c : List (Key × V)) (k : Key) (x : V) : (putK c k x).length ≤ c.length + 1 := by
  unfold putK
  split
  · rw [List.length_map]; exact Nat.le_succ _
  · rw [List.length_append]; exact Nat.le_refl _
mutual
theorem occ_sub_mem (m : Int → Option Tm) (n : Int) : ∀ t : Tm, n ∈ occ (sub m t) → ∃ k ∈ occ t, n ∈ occ ((m k).getD (.var k))
  | .var k, h => ⟨k, List.mem_singleton.mpr rfl, h⟩
  | .app f ts, h => occs_sub_mem m n ts h
theorem occs_sub_mem (m : Int → Option Tm) (n : Int) : ∀ ts : List Tm, n ∈ occs (subs m ts) → ∃ k ∈ occs ts, n ∈ occ ((m k).getD (.var k))
  | [], h => nomatch h
  | t :: ts, h => by
    rcases List.mem_append.mp (show n ∈ occ (sub m t) ++ occs (subs m ts) from h) with z | z
    · obtain ⟨k, hk, q⟩ := occ_sub_mem m n t z
      exact ⟨k, List.mem_append.mpr (.inl hk), q⟩
    · obtain ⟨k, hk, q⟩ := occs_sub_mem m n ts z
      exact ⟨k, List.mem_append.mpr (.inr hk), q⟩
end
def sp_u_law_rule : Sp := fun vs H Q _ => ∃ (s l o : Addr) (fs : List Str) (B : Int) (h : Nat), vs = [.ref s, .ref o, .int B, .int (h : Int)] ∧ h < 4 ∧ St H s l ∧ Ops H o fs ∧ 4 ≤ B + 4 ∧ B < 1000 ∧
  ∀ p H', But s H H' → St H' s l → (∃ t r u v, H' p = some (.tup [u, v]) ∧ TmIn H' t u ∧ TmIn H' r v ∧ t.wf fs B ∧ r.wf fs B ∧ t.sz ≤ 200 ∧ t.dep ≤ h + 2 ∧ r.sz ≤ 200 ∧ r.dep ≤ 6 ∧ isRule t r = true) → Q (.ref p) H'
theorem ok_u_law_rule (T : Tx K mg A) : FnOk P w K mg base CX0 (64) A.a_u_law_rule A.d_u_law_rule ["state", "operations", "count", "height"] sp_u_law_rule := by
  have G_u_law_app := ok_u_law_app (P := P) (w := w) (base := base) T
  have G_u_law_substitute := ok_u_law_substitute (P := P) (w := w) (base := base) T
  have G_u_law_term := ok_u_law_term (P := P) (w := w) (base := base) T
  have G_u_law_variables := ok_u_law_variables (P := P) (w := w) (base := base) T
  refine T.F_u_law_rule.ok sc_u_law_rule (fun vs H Q E h => ?_) (fun cdv Ar outer s0 H vs Q E hr h => ?_)
  · obtain ⟨s, l, o, fs, B, h, rfl, _⟩ := h; rfl
  obtain ⟨s, l, o, fs, B, h, rfl, hh, st, op, B0, B1, q⟩ := h
  refine ⟨_, (pss_cons (ps_set (i := 4) sc_u_law_rule.nd rfl (Or.inl rfl) (pe_call G_u_law_app (hr.mono (by omega)) rfl T.m_u_law_app T.F_u_law_app.kp T.b_u_law_app .nil pass0 (pa_cons (pv 0) (pa_cons (pv 1) (pa_cons (pv 2) (pa_cons (pv 3) pa_nil))))))
    (pss_cons (ps_set (i := 5) sc_u_law_rule.nd rfl (Or.inl rfl) (pe_call G_u_law_variables (hr.mono (by omega)) rfl T.m_u_law_variables T.F_u_law_variables.kp T.b_u_law_variables .nil pass0 (pa_cons (pv 4) pa_nil)))
    (pss_cons (ps_set (i := 6) sc_u_law_rule.nd rfl (Or.inl rfl) (pe_call G_u_law_term (hr.mono (by omega)) rfl T.m_u_law_term T.F_u_law_term.kp T.b_u_law_term .nil pass0 (pa_cons (pv 0) (pa_cons (pv 1) (pa_cons pe_int (pa_cons pe_int pa_nil))))))
    (pss_cons (ps_set (i := 7) sc_u_law_rule.nd rfl (Or.inl rfl) pe_dnewK)
    (pss_cons (ps_for PassesOwn.never rfl (pi_list (pe_call G_u_law_variables (hr.mono (by omega)) rfl T.m_u_law_variables T.F_u_law_variables.kp T.b_u_law_variables .nil pass0 (pa_cons (pv 6) pa_nil))) (pg_name (i := 8) sc_u_law_rule.nd rfl (Or.inl rfl)) (pss_cons (ps_dput (hu_of hr) (pv 7) (pv 8) (pe_tup (pa_cons (pe_ix (r := rIxT K) ix_tup (pe_ix (r := rIxL K) ix_list (pv 1) pe_int (fun _ _ => rfl)) pe_int (fun _ _ => rfl)) pa_nil)) rfl)
    (pss_one (ps_if (pt_cmpR op_gt (pe_callB (r := rLenS K) j_len (by rfl) T.n_len PySem.boot_len (pa_cons (pv 5) pa_nil)) pe_int (nomark _)) (pss_one (ps_dput (hu_of hr) (pv 7) (pv 8) (pe_ix (r := rIxL K) ix_list (pv 5) (pe_op op_modN (pe_callTy call_int1 (by rfl) T.n_int boot_int (pa_cons (pv 8) pa_nil)) (pe_callB (r := rLenS K) j_len (by rfl) T.n_len PySem.boot_len (pa_cons (pv 5) pa_nil))) (fun _ _ => rfl)) rfl)) pss_nil))))
    (pss_one (ps_ret (pe_tup (pa_cons (pv 4) (pa_cons (pe_call G_u_law_substitute (hr.mono (by omega)) rfl T.m_u_law_substitute T.F_u_law_substitute.kp T.b_u_law_substitute .nil pass0 (pa_cons (pv 6) (pa_cons (pv 7) pa_nil))) pa_nil)))))))))), ?_⟩
  have p5 : 3 ^ (h + 2) ≤ 243 := Nat.le_trans (Nat.pow_le_pow_right (by decide) (show h + 2 ≤ 5 by omega)) (by decide)
  walk_at "rd"
  refine ⟨s, l, o, fs, B, h, rfl, by omega, st, op, by omega, by omega, fun lv t H1 b1 st1 ht wt dt zt tapp => ?_⟩
  have op1 := op.but st b1
  walk_at "rd"
  refine ⟨lv, t, rfl, ht, by omega, by omega, fun kp H2 s2 n2 h2 => ?_⟩
  have st2 := st1.same s2
  have op2 := op1.same s2
  have sk : s ≠ kp := (st1.free n2).1
  walk_at "rd"
  refine ⟨s, l, o, fs, 4, 2, by omega, rfl, st2, op2, by decide, by decide, fun rv r H3 b3 st3 hr3 wr dr zr => ?_⟩
  have zr : r.sz ≤ 13 := by have e : (3 : Nat) ^ (2 + 1) = 27 := rfl; omega
  have dr : r.dep ≤ 3 := dr
  have op3 := op2.but st2 b3
  have ht3 := (ht.tu (tu_same s2)).tu (st2.tu b3)
  have h3 := b3 _ _ h2 sk.symm
  dsimp only [gName]
  refine at_state (t := tSeq _ _) (σ' := [some (.ref s), some (.ref o), some (.int B), some (.int (h : Int)), some lv, some (.ref kp), some rv, none, none]) rfl ?_
  dsimp only [tSeq, tAsg, tC, gName]
  first | intro d n4 | refine fun d n4 => ?_
  generalize ehn : upd H3 d _ = H4
  have s4 := J.al_same n4 ehn
  have h4 := J.al_at ehn
  clear ehn
  have st4 := st3.same s4
  have op4 := op3.same s4
  have h34 := s4 _ _ h3
  have kd : kp ≠ d := fun z => by rw [z, n4] at h3; cases h3
  walk_at "rd"
  refine ⟨rv, r, rfl, hr3.tu (tu_same s4), by omega, by omega, fun p2 H5 s5 n5 h5 => ?_⟩
  have st5 := st4.same s5
  have op5 := op4.same s5
  have h35 := s5 _ _ h34
  have h45 := s5 _ _ h4
  have dp2 : d ≠ p2 := fun z => by rw [← z, h4] at n5; cases n5
  have vl : (vars r).length ≤ 13 := by
    have h1 : (vars r).length ≤ 0 + _ := adds_len (occ r) []
    have := occ_len r
    omega
  have vt : (vars t).length ≤ 121 := by
    have h1 : (vars t).length ≤ 0 + _ := adds_len (occ t) []
    have := occ_len t
    omega
  have hfl := op5.2.1
  obtain ⟨os, a0, c0, ho, _, ha0, hc0, hta0⟩ := op5.get (k := 0) (by omega)
  have od : o ≠ d := fun z => by rw [z, h45] at ho; cases ho
  have a0d : a0 ≠ d := fun z => by rw [z, h45] at hta0; cases hta0
  refine ⟨_, rfl, ⟨_, SqL.of h5⟩, for_list (K := K) (a := p2) (xs := (vars r).map V.int) (fun i σ' H' => ∃ (x8 : Option V) (kvs : List (Key × V)) (m : Int → Option Tm), σ' = [some (.ref s), some (.ref o), some (.int B), some (.int (h : Int)), some lv, some (.ref kp), some rv, some (.ref d), x8] ∧ H' d = some (.dK kvs) ∧ kvs.length ≤ 2 * i ∧ (∀ n, match m n with | none => valV kvs (.inl n) = none | some u => ∃ v, valV kvs (.inl n) = some v ∧ TmIn H' u v) ∧ (∀ n u, m n = some u → u.wf fs B ∧ u.sz ≤ 1 ∧ u.dep ≤ 1 ∧ ∀ y ∈ occ u, y ∈ occ t) ∧ (∀ n ∈ (vars r).take i, m n ≠ none) ∧ But d H5 H') ?_ ?_ ?_ ?_⟩
  · exact ⟨_, [], fun _ => none, rfl, h45, Nat.zero_le _, fun n => rfl, (fun n u e => nomatch e), (fun n hn => nomatch hn), But.refl _ _⟩
  · rintro i σ' H' hi ⟨x8, kvs, m, rfl, hd, hl, hm, hg, hk, b⟩
    exact SqL.of (b _ _ h5 dp2.symm)
  · rintro i y σ' H' hi ⟨x8, kvs, m, rfl, hd, hl, hm, hg, hk, b⟩
    obtain ⟨n, gn, rfl⟩ := map_get hi
    have hi' : i < (vars r).length := (List.getElem?_eq_some_iff.mp gn).1
    have ho' := b _ _ ho od
    have hta' := b _ _ hta0 a0d
    have hkp' := b _ _ h35 kd
    walk_at "rd"
    refine ⟨o, os, 0, .ref a0, rfl, rfl, SqL.of ho', atI_nat (j := 0) ha0, ?_⟩
    walk_at "rd"
    refine ⟨show 1 ≤ sizeLine by decide, ?_⟩
    first | intro c n6 | refine fun c n6 => ?_
    generalize ehn : upd H' c _ = H6
    have s6 := J.al_same n6 ehn
    have h6 := J.al_at ehn
    clear ehn
    have hd6 := s6 _ _ hd
    have cd : c ≠ d := fun z => by rw [z, hd] at n6; cases n6
    walk_at "rd"
    refine ⟨d, _, rfl, DPut.k (k := Sum.inl n) hd6 (Nat.lt_of_le_of_lt (show kvs.length ≤ 100 by omega) (by decide)), ?_⟩
    generalize ehn : upd H6 d _ = H7
    have b7 := J.al_but ehn
    have h7 := J.al_at ehn
    clear ehn
    have tu67 : Tu H6 H7 := fun x zs e => b7 _ _ e fun z => by rw [z, hd6] at e; cases e
    have k7 : But d H5 H7 := b.trans ((but_same s6).trans b7)
    have l7 := put_len kvs (.inl n) (.ref c)
    have tu7 : Tu H' H7 := (tu_same s6).trans tu67
    have hsb : SbIn H7 d (fun k => if k = n then some (.app c0 []) else m k) := SbIn.put hd hm tu7 ⟨c, [], rfl, tu67 _ _ h6, rfl⟩ h7
    have hg7 : ∀ k u, (if k = n then some (.app c0 []) else m k) = some u → u.wf fs B ∧ u.sz ≤ 1 ∧ u.dep ≤ 1 ∧ ∀ y ∈ occ u, y ∈ occ t := fun k u e => by
      by_cases z : k = n
      · rw [if_pos z] at e
        cases e
        exact ⟨⟨⟨0, hc0, rfl⟩, trivial⟩, Nat.le_refl _, Nat.le_refl _, fun y hy => nomatch hy⟩
      · rw [if_neg z] at e
        exact hg k u e
    have hk7 : ∀ (u : Tm), ∀ k ∈ (vars r).take (i + 1), (if k = n then some u else m k) ≠ none := fun u k hk' => by
      by_cases z : k = n
      · rw [if_pos z]; exact fun z => nomatch z
      · rw [if_neg z]
        rw [list_take_succ gn] at hk'
        rcases List.mem_append.mp hk' with w | w
        · exact hk k w
        · exact absurd (List.mem_singleton.mp w) z
    obtain ⟨kvs7, hd7, hm7⟩ := hsb
    rw [h7] at hd7
    cases hd7
    have hkp7 := k7 _ _ h35 kd
    walk_at "rd"
    refine ifD (fun e => ?_) (fun e => ?_)
    · have e : (0 : Int) < (((vars t).map V.int).length : Int) := e
      rw [List.length_map] at e
      have el : (((vars t).map V.int).length : Int) = ((vars t).length : Int) := by rw [List.length_map]
      have f0 : 0 ≤ Int.fmod n ((vars t).length : Int) := Int.fmod_nonneg_of_pos n e
      have f1 : Int.fmod n ((vars t).length : Int) < ((vars t).length : Int) := Int.fmod_lt_of_pos n e
      obtain ⟨j, ej⟩ := Int.eq_ofNat_of_zero_le f0
      have hj : j < (vars t).length := by omega
      obtain ⟨yv, gy⟩ : ∃ yv, (vars t)[j]? = some yv := ⟨_, List.getElem?_eq_getElem hj⟩
      have hy : yv ∈ vars t := List.mem_of_getElem? gy
      walk_at "rd"
      refine ⟨kp, _, _, .int yv, rfl, rfl, SqL.of hkp7, by rw [el, ej]; exact atI_nat (by rw [List.getElem?_map, gy]; rfl), ?_⟩
      walk_at "rd"
      refine ⟨d, _, rfl, DPut.k (k := Sum.inl n) h7 (Nat.lt_of_le_of_lt (show _ ≤ 100 by omega) (by decide)), ?_⟩
      generalize ehn : upd H7 d _ = H8
      have b8 := J.al_but ehn
      have h8 := J.al_at ehn
      clear ehn
      have tu8 : Tu H7 H8 := fun x zs e => b8 _ _ e fun z => by rw [z, h7] at e; cases e
      have l8 := put_len (putK kvs (.inl n) (.ref c)) (.inl n) (.int yv)
      obtain ⟨kvs8, hd8, hm8⟩ := SbIn.put (m := fun k => if k = n then some (.app c0 []) else m k) (t := .var yv) h7 hm7 tu8 (show TmIn H8 (.var yv) (.int yv) from rfl) h8
      rw [h8] at hd8
      cases hd8
      refine ⟨_, _, _, rfl, h8, by omega, hm8, fun k u e => ?_, fun k hk' => ?_, k7.trans b8⟩
      · by_cases z : k = n
        · rw [if_pos z] at e
          cases e
          exact ⟨occ_wf t wt yv ((vars_mem _ _).mp hy), Nat.le_refl _, Nat.le_refl _, fun y hy' => by rw [List.mem_singleton.mp hy']; exact (vars_mem _ _).mp hy⟩
        · rw [if_neg z] at e
          exact hg7 k u e
      · by_cases z : k = n
        · rw [if_pos z]; exact fun z => nomatch z
        · rw [if_neg z]; exact hk7 _ k hk'
    · walk_at "rd"
      exact ⟨_, _, _, rfl, h7, by omega, hm7, hg7, hk7 _, k7⟩
  · rintro σ' H' ⟨x8, kvs, m, rfl, hd, hl, hm, hg, hk, b⟩
    rw [List.length_map, List.take_length] at hk
    have k5 : But d H4 H' := (but_same s5).trans b
    have tud : Tu H4 H' := fun x zs e => k5 _ _ e fun z => by rw [z, h4] at e; cases e
    have hr' := (hr3.tu (tu_same s4)).tu tud
    have ht' := (ht3.tu (tu_same s4)).tu tud
    have gd : ∀ n ∈ occ r, ∃ u, m n = some u ∧ u.wf fs B ∧ u.sz ≤ 1 ∧ u.dep ≤ 1 ∧ ∀ y ∈ occ u, y ∈ occ t := fun n hn => by
      cases e : m n with
      | none => exact absurd e (hk n ((vars_mem r n).mpr hn))
      | some u => exact ⟨u, rfl, hg n u e⟩
    have sz := sub_szM m 1 0 (by decide) r fun n hn => by
      obtain ⟨u, e, _, g1, g2, _⟩ := gd n hn
      rw [e]; exact ⟨g1, g2⟩
    have wr' : (sub m r).wf fs B := sub_wf m r wr fun n hn => by
      obtain ⟨u, e, g0, _⟩ := gd n hn
      rw [e]; exact g0
    have hru : isRule t (sub m r) = true := by
      obtain ⟨f, ts, rfl⟩ := tapp
      unfold isRule
      rw [List.all_eq_true]
      intro y hy
      obtain ⟨k, hk1, hk2⟩ := occ_sub_mem m y r ((vars_mem _ _).mp hy)
      obtain ⟨u, e, _, _, _, g3⟩ := gd k hk1
      rw [e] at hk2
      exact decide_eq_true ((vars_mem _ _).mpr (g3 y hk2))
    walk_at "rd"
    refine ⟨rv, r, d, m, rfl, hr', ⟨kvs, hd, hm⟩, by omega, by omega, fun w H8 s8 hw => ?_⟩
    walk_at "rd"
    refine ⟨show 2 ≤ sizeLine by decide, ?_⟩
    first | intro p n9 | refine fun p n9 => ?_
    generalize ehn : upd H8 p _ = H9
    have s9 := J.al_same n9 ehn
    have h9 := J.al_at ehn
    clear ehn
    have k49 : But d H4 H9 := k5.trans ((but_same s8).trans (but_same s9))
    have kall : But s H H9 := fun x ob e ne => by
      have e3 := b3 _ _ (s2 _ _ (b1 _ _ e ne)) ne
      exact k49 x ob (s4 _ _ e3) fun z => by rw [z, n4] at e3; cases e3
    have sd : s ≠ d := (st3.free n4).1
    have ld : l ≠ d := (st3.free n4).2
    have st9 := st4.but k49 sd ld
    have tu9 : Tu H' H9 := (tu_same s8).trans (tu_same s9)
    exact q p H9 kall st9 ⟨t, sub m r, lv, w, h9, ht'.tu tu9, hw.tu (tu_same s9), wt, wr', by omega, by omega, by omega, by omega, hru⟩

/-! symbols -/
def sp_symbols : Sp := fun vs H Q _ => ∃ (v : V) (t : Tm), vs = [v] ∧ TmIn H t v ∧ t.sz ≤ 100000 ∧ ∀ p H', Same H H' → H p = none → H' p = some (.lst (syms t)) → Q (.ref p) H'
theorem ok_symbols (T : Tx K mg A) : FnOk P w K mg base CX0 (1) A.a_symbols A.d_symbols ["term"] sp_symbols := by
  refine T.F_symbols.ok sc_symbols (fun vs H Q E h => ?_) (fun cdv Ar outer s0 H vs Q E hr h => ?_)
  · obtain ⟨v, t, rfl, _⟩ := h; rfl
  obtain ⟨v, t, rfl, ht, hz, q⟩ := h
  refine ⟨_, (pss_cons (ps_set (i := 1) sc_symbols.nd rfl (Or.inl rfl) (pe_lst pa_nil))
    (pss_cons (ps_set (i := 2) sc_symbols.nd rfl (Or.inl rfl) (pe_lst (pa_cons (pv 0) pa_nil)))
    (pss_cons (ps_while PassesOwn.never (pt_truth (pv 2) (by intro _; rfl)) (pss_cons (ps_set (i := 3) sc_symbols.nd rfl (Or.inl rfl) (pe_bm0 PySem.F.plainAttrs_list PySem.F.slot_list_pop PySem.F.type_list_pop mt_pop (pv 2)))
    (pss_one (ps_if (pt_val (pe_callB (r := rIsi K) call_isi (by rfl) T.n_isinstance boot_isinstance (pa_cons (pv 3) (pa_cons (pe_bltn (v := .ty "int") (by rfl) T.n_int boot_int rfl) pa_nil)))) (pss_one (ps_expr (pe_bm PySem.F.plainAttrs_list PySem.F.slot_list_append PySem.F.type_list_append mt_append (pv 1) (pa_cons (pv 3) pa_nil)))) (pss_cons (ps_expr (pe_bm PySem.F.plainAttrs_list PySem.F.slot_list_append PySem.F.type_list_append mt_append (pv 1) (pa_cons (pe_ix (r := rIxT K) ix_tup (pv 3) pe_int (fun _ _ => rfl)) pa_nil)))
    (pss_one (ps_expr (pe_bm PySem.F.plainAttrs_list PySem.F.slot_list_extend PySem.F.type_list_extend (r := rExtT K) mt_extT (pv 2) (pa_cons (pe_revT (pv 3)) pa_nil)))))))))
    (pss_one (ps_ret (pv 1)))))), ?_⟩
  walk_at "rd"
  refine ⟨by show 0 ≤ sizeLine; decide, ?_⟩
  first | intro p n1 | refine fun p n1 => ?_
  generalize ehn : upd H p _ = H1
  have s1 := J.al_same n1 ehn
  have h1 := J.al_at ehn
  clear ehn
  walk_at "rd"
  refine ⟨by show 1 ≤ sizeLine; decide, ?_⟩
  first | intro w n2 | refine fun w n2 => ?_
  generalize ehn : upd H1 w _ = H2
  have s2 := J.al_same n2 ehn
  have h2 := J.al_at ehn
  clear ehn
  have hpw : p ≠ w := fun z => by rw [z] at h1; rw [h1] at n2; cases n2
  refine while_list (K := K) (fun σ' H' => ∃ (us : List Tm) (ws acc : List V) (x : Option V), σ' = [some v, some (.ref p), some (.ref w), x] ∧ H' w = some (.lst ws) ∧ TmsIn H' us ws ∧ H' p = some (.lst acc) ∧ syms t = acc ++ symss us.reverse ∧ Same H H')
    (fun σ' H' => t.sz - (match H' p with | some (.lst acc) => acc.length | _ => 0)) ?_ ?_
  · exact ⟨[t], [v], [], none, rfl, h2, TmsIn.one ((ht.tu (tu_same s1)).tu (tu_same s2)), s2 _ _ h1, by show syms t = [] ++ (syms t ++ []); simp, s1.trans s2⟩
  · rintro σ' H' ⟨us, ws, acc, x, rfl, hw, hus, hp, e, k⟩
    refine ⟨w, ws, rfl, hw, fun z => ?_, fun z => ?_⟩
    · subst z
      have : us = [] := List.length_eq_zero_iff.mp hus.length.symm
      subst this
      walk_at "rd"
      refine q p H' k n1 ?_
      rw [hp, e]
      show some (HO.lst acc) = some (HO.lst (acc ++ []))
      rw [List.append_nil]
    · have hl : ws.length - 1 < ws.length := by
        cases ws with
        | nil => exact absurd rfl z
        | cons a r => exact Nat.sub_lt (Nat.succ_pos _) Nat.one_pos
      obtain ⟨u, hu⟩ : ∃ u, ws[ws.length - 1]? = some u := ⟨_, List.getElem?_eq_getElem hl⟩
      obtain ⟨us', r, rfl, hr1, hus'⟩ := hus.snoc hu
      rw [List.reverse_append] at e
      have e : syms t = acc ++ (syms r ++ symss us'.reverse) := e
      have el := congrArg List.length e
      rw [syms_len, List.length_append, List.length_append, syms_len, symss_len, szs_rev] at el
      have hrz := r.sz_pos
      walk_at "rd"
      refine ⟨.inl ⟨rfl, _, SqL.of hw⟩, w, ws, u, rfl, rfl, hw, hu, ?_⟩
      generalize ehn : upd H' w _ = H3
      have b3 := J.al_but ehn
      have h3 := J.al_at ehn
      clear ehn
      have k3 : Same H H3 := fun a o ea => b3 a o (k a o ea) fun z => by rw [z] at ea; rw [s1.free n2] at ea; cases ea
      have tu3 : Tu H' H3 := but_tu b3 (lst_not_tup hw)
      have hp3 := b3 _ _ hp hpw
      have hr3 := hr1.tu tu3
      have hus3 := hus'.tu tu3
      cases r with
      | var n =>
        cases (show u = .int n from hr3)
        walk_at "rd"
        walk_at "isi"
        walk_at "rd"
        refine ⟨.inl ⟨rfl, _, SqL.of hp3⟩, _, rfl, p, acc, _, rfl, rfl, hp3, Nat.lt_of_lt_of_le (show acc.length < 100001 by omega) (by decide), ?_⟩
        generalize ehn : upd H3 p _ = H4
        have b4 := J.al_but ehn
        have h4 := J.al_at ehn
        clear ehn
        refine ⟨⟨us', _, acc ++ [.int n], _, rfl, b4 _ _ h3 hpw.symm, hus3.tu (but_tu b4 (lst_not_tup hp3)), h4, ?_, fun a o ea => b4 a o (k3 a o ea) fun z => by rw [z, n1] at ea; cases ea⟩, ?_⟩
        · rw [e, List.append_assoc]; rfl
        · rw [h4, hp]
          show t.sz - (acc ++ [V.int n]).length < t.sz - acc.length
          rw [List.length_append]
          have el : t.sz = acc.length + (1 + Tm.szs us') := el
          show t.sz - (acc.length + 1) < _
          omega
      | app f ts =>
        obtain ⟨a, vs, rfl, ha, hts⟩ := hr3
        have el : t.sz = acc.length + ((1 + Tm.szs ts) + Tm.szs us') := el
        walk_at "rd"
        walk_at "isi"
        walk_at "rd"
        refine ⟨.inl ⟨rfl, _, SqL.of hp3⟩, ?_⟩
        walk_at "rd"
        refine ⟨p, acc, _, rfl, rfl, hp3, Nat.lt_of_lt_of_le (show acc.length < 100001 by omega) (by decide), ?_⟩
        generalize ehn : upd H3 p _ = H4
        have b4 := J.al_but ehn
        have h4 := J.al_at ehn
        clear ehn
        have tu4 : Tu H3 H4 := but_tu b4 (lst_not_tup hp3)
        have hw4 := b4 _ _ h3 hpw.symm
        have ha4 := tu4 _ _ ha
        have k4 : Same H H4 := fun a o ea => b4 a o (k3 a o ea) fun z => by rw [z, n1] at ea; cases ea
        walk_at "rd"
        refine ⟨.inl ⟨rfl, _, SqL.of hw4⟩, _, rfl, a, _, vs, rfl, SqT.of ha4, ?_⟩
        first | intro y n5 | refine fun y n5 => ?_
        generalize ehn : upd H4 y _ = H5
        have s5 := J.al_same n5 ehn
        have h5 := J.al_at ehn
        clear ehn
        have hw5 := s5 _ _ hw4
        have hl1 := hus'.length
        have hl2 := hts.length
        have h3' := Tm.len_le us'
        have h4' := Tm.len_le ts
        refine ⟨w, y, _, _, rfl, rfl, hw5, SqT.of h5, ?_, ?_⟩
        · rw [List.length_reverse]
          exact Nat.le_trans (show ws.dropLast.length + vs.length ≤ 100001 by omega) (by decide)
        generalize ehn : upd H5 w _ = H6
        have b6 := J.al_but ehn
        have h6 := J.al_at ehn
        clear ehn
        have tu6 : Tu H5 H6 := but_tu b6 (lst_not_tup hw5)
        have tu36 : Tu H3 H6 := tu4.trans ((tu_same s5).trans tu6)
        refine ⟨⟨us' ++ ts.reverse, _, acc ++ [.str f], _, rfl, h6, (hus3.tu tu36).append (hts.rev.tu tu36), b6 _ _ (s5 _ _ h4) hpw, ?_, fun a o ea => b6 a o (s5 a o (k4 a o ea)) fun z => by rw [z] at ea; rw [s1.free n2] at ea; cases ea⟩, ?_⟩
        · rw [e, List.reverse_append, List.reverse_reverse, symss_app, List.append_assoc]; rfl
        · rw [b6 _ _ (s5 _ _ h4) hpw, hp]
          show t.sz - (acc ++ [V.str f]).length < t.sz - acc.length
          rw [List.length_append]
          show t.sz - (acc.length + 1) < _
          omega

/-! variables -/
def sp_variables : Sp := fun vs H Q _ => ∃ (v : V) (t : Tm), vs = [v] ∧ TmIn H t v ∧ t.sz ≤ 100000 ∧ ∀ p H', Same H H' → H p = none → H' p = some (.lst ((vars t).map V.int)) → Q (.ref p) H'
theorem ok_variables (T : Tx K mg A) : FnOk P w K mg base CX0 (2) A.a_variables A.d_variables ["term"] sp_variables := by
  have G_symbols := ok_symbols (P := P) (w := w) (base := base) T
  refine T.F_variables.ok sc_variables (fun vs H Q E h => ?_) (fun cdv Ar outer s0 H vs Q E hr h => ?_)
  · obtain ⟨v, t, rfl, _⟩ := h; rfl
  obtain ⟨v, t, rfl, ht, hz, q⟩ := h
  refine ⟨_, (pss_cons (ps_set (i := 1) sc_variables.nd rfl (Or.inl rfl) pe_dnewK)
    (pss_cons (ps_for PassesOwn.never rfl (pi_list (pe_call G_symbols (hr.mono (by omega)) rfl T.m_symbols T.F_symbols.kp T.b_symbols .nil pass0 (pa_cons (pv 0) pa_nil))) (pg_name (i := 2) sc_variables.nd rfl (Or.inl rfl)) (pss_one (ps_if (pt_val (pe_callB (r := rIsi K) call_isi (by rfl) T.n_isinstance boot_isinstance (pa_cons (pv 2) (pa_cons (pe_bltn (v := .ty "int") (by rfl) T.n_int boot_int rfl) pa_nil)))) (pss_one (ps_dput (hu_of hr) (pv 1) (pv 2) pe_bl rfl)) pss_nil)))
    (pss_one (ps_ret (pe_callTy (call_list_dK rfl) (by rfl) T.n_list boot_list (pa_cons (pv 1) pa_nil)))))), ?_⟩
  first | intro d n1 | refine fun d n1 => ?_
  generalize ehn : upd H d _ = H1
  have s1 := J.al_same n1 ehn
  have h1 := J.al_at ehn
  clear ehn
  walk_at "rd"
  refine ⟨v, t, rfl, ht.tu (tu_same s1), hz, fun p H2 s2 n2 h2 => ?_⟩
  have hdp : p ≠ d := fun z => by rw [z, h1] at n2; cases n2
  refine ⟨_, rfl, ⟨_, SqL.of h2⟩, for_list (K := K) (a := p) (xs := syms t) (fun i σ' H' => ∃ x, σ' = [some v, some (.ref d), x] ∧ H' d = some (.dK (kd (adds [] (intsOf ((syms t).take i))))) ∧ But d H2 H') ?_ ?_ ?_ ?_⟩
  · exact ⟨none, rfl, s2 _ _ h1, But.refl _ _⟩
  · rintro i σ' H' hi ⟨x, rfl, hd, b⟩
    exact SqL.of (b _ _ h2 hdp)
  · rintro i y σ' H' hi ⟨x, rfl, hd, b⟩
    have e : intsOf ((syms t).take (i + 1)) = intsOf ((syms t).take i) ++ intsOf [y] := by rw [list_take_succ hi, intsOf_app]
    have il : (adds [] (intsOf ((syms t).take i))).length ≤ 100000 := by
      have h1 := adds_len (intsOf ((syms t).take i)) []
      have h2 : (intsOf ((syms t).take i)).length ≤ ((syms t).take i).length := List.length_filterMap_le _ _
      rw [List.length_take, syms_len] at h2
      have h1 : _ ≤ 0 + _ := h1
      omega
    rcases syms_kind t y (List.mem_of_getElem? hi) with ⟨n, rfl⟩ | ⟨f, rfl⟩
    · walk_at "rd"
      walk_at "isi"
      walk_at "rd"
      refine ⟨d, _, rfl, DPut.k (k := Sum.inl n) hd (by rw [kd_len]; exact Nat.lt_of_le_of_lt il (by decide)), _, rfl, ?_, b.upd _⟩
      rw [upd_same, kd_put, e, adds_app]; rfl
    · walk_at "rd"
      walk_at "isi"
      walk_at "rd"
      refine ⟨?_, b⟩
      rw [hd, e]
      show _ = some (HO.dK (kd (adds [] (intsOf ((syms t).take i) ++ []))))
      rw [List.append_nil]
  · rintro σ' H' ⟨x, rfl, hd, b⟩
    have e : (syms t).take (syms t).length = syms t := List.take_length
    rw [e, ints_syms] at hd
    walk_at "rd"
    refine ⟨d, _, rfl, hd, ?_⟩
    have e2 : ((kd (adds [] (occ t))).map fun kv => kV kv.1) = (vars t).map V.int := by
      unfold kd vars; rw [List.map_map]; rfl
    rw [e2]
    first | intro r n3 | refine fun r n3 => ?_
    generalize ehn : upd H' r _ = H3
    have s3 := J.al_same n3 ehn
    have h3 := J.al_at ehn
    clear ehn
    have k : Same H H' := b.same (s1.trans s2) n1
    exact q r H3 (k.trans s3) (k.free n3) h3

/-! is_rule -/
def sp_is_rule : Sp := fun vs H Q _ => ∃ (v u : V) (t r : Tm), vs = [v, u] ∧ TmIn H t v ∧ TmIn H r u ∧ t.sz ≤ 100000 ∧ r.sz ≤ 100000 ∧ ∀ H', Same H H' → Q (.bl (isRule t r)) H'
theorem ok_is_rule (T : Tx K mg A) : FnOk P w K mg base CX0 (3) A.a_is_rule A.d_is_rule ["left", "right"] sp_is_rule := by
  have G_variables := ok_variables (P := P) (w := w) (base := base) T
  refine T.F_is_rule.ok sc_is_rule (fun vs H Q E h => ?_) (fun cdv Ar outer s0 H vs Q E hr h => ?_)
  · obtain ⟨v, u, t, r, rfl, _⟩ := h; rfl
  obtain ⟨v, u, t, r, rfl, ht, hu, zt, zr, q⟩ := h
  refine ⟨_, (pss_cons (ps_if (pt_val (pe_callB (r := rIsi K) call_isi (by rfl) T.n_isinstance boot_isinstance (pa_cons (pv 0) (pa_cons (pe_bltn (v := .ty "int") (by rfl) T.n_int boot_int rfl) pa_nil)))) (pss_one (ps_ret pe_bl)) pss_nil)
    (pss_cons (ps_set (i := 2) sc_is_rule.nd rfl (Or.inr rfl) (pe_call G_variables (hr.mono (by omega)) rfl T.m_variables T.F_variables.kp T.b_variables .nil pass0 (pa_cons (pv 0) pa_nil)))
    (pss_one (ps_ret (pe_callB (r := rAll K) (cr_all rfl) (by rfl) T.n_all boot_all (pa_cons (pe_lc (own := [("variable", 3)]) (by rfl) sc_is_rule.nd (pi_list (pe_call G_variables (hr.mono (by omega)) rfl T.m_variables T.F_variables.kp T.b_variables .nil pass0 (pa_cons (pv 1) pa_nil))) (blkOk_by (own := [("variable", 3)]) (N := ["left", "right", "names", "variable"]) (sc := defScope s_is_rule) (by decide +kernel)) (fun _ _ _ _ _ => (pg_name (i := 3) sc_is_rule.nd rfl (Or.inl rfl))) (fun _ _ _ _ _ => pts_nil) (fun _ _ _ _ _ => (pe_cmpR (r := rIn K false) op_in_seq (pv 3) (pv 2) rfl))) pa_nil)))))), ?_⟩
  cases t with
  | var n =>
    cases (show v = .int n from ht)
    walk_at "ri"
    exact q H (Same.refl _)
  | app f ts =>
    have ht0 := ht
    obtain ⟨a, vs, rfl, ha, hts⟩ := ht0
    walk_at "ri"
    refine ⟨.ref a, .app f ts, rfl, ht, zt, fun p H1 s1 n1 h1 => ?_⟩
    walk_at "rd"
    refine ⟨u, r, rfl, hu.tu (tu_same s1), zr, fun p2 H2 s2 n2 h2 => ?_⟩
    walk_at "rd"
    refine ⟨⟨_, SqL.of h2⟩, fun D hD => ?_⟩
    have hp2 := s2 _ _ h1
    have vl : (vars r).length ≤ 100000 := by
      have h1 : (vars r).length ≤ 0 + _ := adds_len (occ r) []
      have := occ_len r
      omega
    refine lc_list (xs := (vars r).map V.int) (fun i H' => H' D = some (.lst (((vars r).take i).map fun n => V.bl (decide (n ∈ vars (.app f ts))))) ∧ Same H2 H') ?_ ?_ ?_ ?_
    · exact ⟨upd_same, same_new hD _⟩
    · rintro i H' hi ⟨_, k⟩
      exact SqL.of (k _ _ h2)
    · rintro i y H' hi ⟨hd, k⟩
      obtain ⟨n, gn, rfl⟩ := map_get hi
      refine ⟨rfl, ?_⟩
      have hp' := k _ _ hp2
      walk_at "rd"
      refine ⟨(by rw [List.all_map]; exact List.all_eq_true.mpr fun _ _ => rfl), ?_⟩
      refine ⟨_, hd, by rw [List.length_map, List.length_take]; exact Nat.lt_of_le_of_lt (show min i (vars r).length ≤ 100000 by omega) (by decide), ?_, fun c ob e => ?_⟩
      · rw [upd_same, list_take_succ gn, List.map_append]
        show some (HO.lst (_ ++ [V.bl (inV (.int n) ((vars (.app f ts)).map V.int))])) = _
        rw [inV_ints]; rfl
      · rw [upd_ne (ne_of_none e hD)]
        exact k _ _ e
    · rintro H' ⟨hd, k⟩
      rw [List.length_map, List.take_length] at hd
      walk_at "rd"
      refine ⟨D, (vars r).map (fun n => decide (n ∈ vars (.app f ts))), rfl, ?_, ?_⟩
      · rw [List.map_map]; exact SqL.of hd
      · rw [List.all_map]
        exact q H' (s1.trans (s2.trans k))

/-! InvalidRule.__init__ -/
def sp_InvalidRule___init (K : PySem.W.Frag) (C : Addr) : Sp := fun vs H Q _ => ∃ (a : Addr) (n : Int), vs = [.ref a, .int n] ∧ OexC K C ∧ PySem.W.findIn K (.ref C) "index" = some none ∧ H a = some (exo a C none) ∧ ∀ dx, H dx = none → dx ≠ a → Q .non (upd (upd H dx (exd dx [("index", .int n)])) a (exo a C (some dx)))
theorem ok_InvalidRule___init (T : Tx K mg A) : FnOk P w K mg base CX0 1 A.a_InvalidRule___init A.d_InvalidRule___init ["self", "index"] (sp_InvalidRule___init K A.c_InvalidRule) := by
  refine T.F_InvalidRule___init.ok sc_InvalidRule___init (fun vs H Q E h => ?_) (fun cdv Ar outer s0 H vs Q E hr h => ?_)
  · obtain ⟨a, n, rfl, _⟩ := h; rfl
  obtain ⟨a, n, rfl, oC, nf, ha, q⟩ := h
  refine ⟨_, (pss_one (ps_ost (pv 0) (pv 1))), ?_⟩
  walk_at "rd"
  exact ⟨a, _, rfl, oC, nf, .inl ⟨ha, fun dx hd hne => q dx hd hne⟩⟩

/-! check_rules -/
def sp_check_rules (C : Addr) : Sp := fun vs H Q E => ∃ (a : Addr) (ws : List V) (xs : List (Tm × Tm)), vs = [.ref a] ∧ H a = some (.lst ws) ∧ PrIn H ws xs ∧ xs.length ≤ 10000 ∧ RulesOk xs ∧ (fbad xs = none → ∀ H', Same H H' → Q .non H') ∧ (∀ i : Nat, fbad xs = some i → ∀ d H', Same H H' → H' d = some (.xd [("index", .int (i : Int))]) → E (.ref C) (some d) H')
theorem ok_check_rules (T : Tx K mg A) : FnOk P w K mg base (L2.CX P w) 4 A.a_check_rules A.d_check_rules ["rules"] (sp_check_rules A.c_InvalidRule) := by
  have G_InvalidRule___init := ok_InvalidRule___init (P := P) (w := w) (base := base) T
  have G_is_rule := ok_is_rule (P := P) (w := w) (base := base) T
  refine T.F_check_rules.okX sc_check_rules (fun vs H Q E h => ?_) (fun cdv Ar outer s0 H vs Q E hr h => ?_)
  · obtain ⟨a, ws, xs, rfl, _⟩ := h; rfl
  obtain ⟨a, ws, xs, rfl, ha, hp, hl, ok, q1, q2⟩ := h
  refine ⟨_, (pss_one (ps_for (passes_of rfl) rfl (pi_enum (by rfl) T.n_enumerate (pa_cons (pv 0) pa_nil)) (pg_tup (by rfl) (pgs_cons (pg_name (i := 1) sc_check_rules.nd rfl (Or.inl rfl)) (pgs_cons (pg_tup (by rfl) (pgs_cons (pg_name (i := 2) sc_check_rules.nd rfl (Or.inl rfl)) (pgs_cons (pg_name (i := 3) sc_check_rules.nd rfl (Or.inl rfl)) pgs_nil))) pgs_nil))) (pss_one (ps_if (pt_not (pt_truth (pe_call G_is_rule (hr.mono (by omega)) rfl T.m_is_rule T.F_is_rule.kp T.b_is_rule .nil pass0 (pa_cons (pv 2) (pa_cons (pv 3) pa_nil))) (by intro _; rfl))) (pss_one (ps_raise rfl (takes_of rfl rfl rfl rfl) (pmk_oex T.E_InvalidRule.oC T.E_InvalidRule.iC T.E_InvalidRule.tI G_InvalidRule___init (hr.mono (by omega)) T.b_InvalidRule___init .nil pass0 rfl T.E_InvalidRule.gC (pa_cons (pv 1) pa_nil)))) pss_nil)))), ?_⟩
  have wl := hp.length
  walk_at "rd"
  refine ⟨a, ws, rfl, SqL.of ha, ?_⟩
  refine for_it (walk_enum (K := K) (a := a) (xs := ws)) (fun i σ' H' => ∃ x1 x2 x3, σ' = [some (.ref a), x1, x2, x3] ∧ (∀ y ∈ xs.take i, isRule y.1 y.2 = true) ∧ Same H H') ?_ ?_ ?_ ?_
  · exact ⟨none, none, none, rfl, (fun y hy => nomatch hy), Same.refl _⟩
  · rintro i σ' H' hi ⟨x1, x2, x3, rfl, hall, k⟩
    exact SqL.of (k _ _ ha)
  · rintro i x0 σ' H1 H2 hi ⟨x1, x2, x3, rfl, hall, k⟩ ⟨Tp, u0, w, rfl, nT, eH, eu, gw⟩
    cases eu
    have s12 := al_same nT eH.symm
    have hT := al_at eH.symm
    have k2 := k.trans s12
    obtain ⟨x, b, u, v, gx, rfl, hb, hu, hv⟩ := (hp.tu (tu_same k2)).get gw
    obtain ⟨z1, z2, d1, d2⟩ := ok x (List.mem_of_getElem? gx)
    refine ⟨Tp, _, rfl, SqT.of hT, rfl, _, _, rfl, _, _, rfl, b, _, rfl, SqT.of hb, rfl, _, _, rfl, _, _, rfl, rfl, rfl, ?_⟩
    walk_at "rd"
    refine ⟨u, v, x.1, x.2, rfl, hu, hv, by omega, by omega, fun H3 s3 => ?_⟩
    cases e : isRule x.1 x.2 with
    | true =>
      have hall2 : ∀ y ∈ xs.take (i + 1), isRule y.1 y.2 = true := fun y hy => by
        rw [list_take_succ gx] at hy
        rcases List.mem_append.mp hy with z | z
        · exact hall y z
        · rw [List.mem_singleton.mp z]; exact e
      walk_at "rd"
      exact ⟨_, _, _, rfl, hall2, k2.trans s3⟩
    | false =>
      have q2 := q2 i (fbad_at hall gx e)
      walk_at "rd"
      refine ⟨show 1 ≤ 1000 by decide, fun c nc => ?_⟩
      refine ⟨c, (i : Int), rfl, T.E_InvalidRule.oC, T.nf_index, upd_same, fun dx hd hne => ⟨rfl, dx, [("index", .int (i : Int))], upd_same, ?_, ?_, ?_⟩⟩
      · rw [upd_ne hne, upd_same]
      · rw [upd_ne hne] at hd; exact hd
      · rw [upd_ne hne] at hd
        refine q2 dx _ (fun b ob eb => ?_) upd_same
        have hb3 := (k2.trans s3) b ob eb
        have bc : b ≠ c := fun z => by rw [z, nc] at hb3; cases hb3
        have bd : b ≠ dx := fun z => by rw [z, hd] at hb3; cases hb3
        rw [upd_ne bd, del_ne bc, upd_ne bc, upd_ne bd, upd_ne bc]
        exact hb3
  · rintro σ' H' ⟨x1, x2, x3, rfl, hall, k⟩
    rw [wl, List.take_length] at hall
    exact q1 (fbad_none hall) _ k

/-! RuleIndex._branch -/
def sp_RuleIndex__branch (C : Addr) (P : Program) (w : World) : Sp := fun vs H Q _ => ∃ (a : RiA) (ls : List Tm) (ps : List (List Leaf)) (v : V) (t : Tm), vs = [.ref a.p, v] ∧ RiAt C P w H a ls ps ∧ TmIn H t v ∧ t.sz ≤ 10000 ∧ ps.length ≤ 1000000 ∧
  ∀ ps' H', FrI a H H' → RiAt C P w H' a ls ps' → pre t ∈ ps' → ps'.length ≤ ps.length + t.sz → Q (.int ((ixg ps' (pre t) : Nat) : Int)) H'
set_option maxHeartbeats 1000000 in
theorem ok_RuleIndex__branch (T : Tx K mg A) : FnOk P w K mg base CX0 2 A.a_RuleIndex__branch A.d_RuleIndex__branch ["self", "left"] (sp_RuleIndex__branch A.c_RuleIndex P w) := by
  have G_symbols := ok_symbols (P := P) (w := w) (base := base) T
  refine T.F_RuleIndex__branch.ok sc_RuleIndex__branch (fun vs H Q E h => ?_) (fun cdv Ar outer s0 H vs Q E hr h => ?_)
  · obtain ⟨a, ls, ps, v, t, rfl, _⟩ := h; rfl
  obtain ⟨a, ls, ps, v, t, rfl, ri, ht, zt, lp, q⟩ := h
  refine ⟨_, (pss_cons (ps_set (i := 2) sc_RuleIndex__branch.nd rfl (Or.inl rfl) pe_int)
    (pss_cons (ps_for PassesOwn.never rfl (pi_list (pe_call G_symbols (hr.mono (by omega)) rfl T.m_symbols T.F_symbols.kp T.b_symbols .nil pass0 (pa_cons (pv 1) pa_nil))) (pg_name (i := 3) sc_RuleIndex__branch.nd rfl (Or.inl rfl)) (pss_cons (ps_set (i := 4) sc_RuleIndex__branch.nd rfl (Or.inl rfl) (pe_ifExp (pt_val (pe_callB (r := rIsi K) call_isi (by rfl) T.n_isinstance boot_isinstance (pa_cons (pv 3) (pa_cons (pe_bltn (v := .ty "int") (by rfl) T.n_int boot_int rfl) pa_nil)))) pe_non (pv 3)))
    (pss_cons (ps_if (pt_cmp (pc_nnotin (pv 4) (pe_ix (r := rIxL K) ix_list (pe_fld (pv 0) rfl) (pv 2) (fun _ _ => rfl)))) (pss_cons (ps_nput (pe_ix (r := rIxL K) ix_list (pe_fld (pv 0) rfl) (pv 2) (fun _ _ => rfl)) (pv 4) (pe_callB (r := rLenS K) j_len (by rfl) T.n_len PySem.boot_len (pa_cons (pe_fld (pv 0) rfl) pa_nil)) rfl)
    (pss_cons (ps_expr (pe_bm PySem.F.plainAttrs_list PySem.F.slot_list_append PySem.F.type_list_append mt_append (pe_fld (pv 0) rfl) (pa_cons (pe_dnewN) pa_nil)))
    (pss_one (ps_expr (pe_bm PySem.F.plainAttrs_list PySem.F.slot_list_append PySem.F.type_list_append mt_append (pe_fld (pv 0) rfl) (pa_cons (pe_lst pa_nil) pa_nil)))))) pss_nil)
    (pss_one (ps_set (i := 2) sc_RuleIndex__branch.nd rfl (Or.inl rfl) (pe_nget (pe_ix (r := rIxL K) ix_list (pe_fld (pv 0) rfl) (pv 2) (fun _ _ => rfl)) (pv 4) (fun _ _ => rfl)))))))
    (pss_one (ps_ret (pv 2))))), ?_⟩
  have f1 : (RiA.fs a).lookup ("_branches" : Str) = some (.ref a.b) := ria_branches a
  have f2 : (RiA.fs a).lookup ("_ends" : Str) = some (.ref a.e) := ria_ends a
  walk_at "rd"
  refine ⟨v, t, rfl, ht, by omega, fun sl H1 s1 n1 h1 => ?_⟩
  have fi1 : FrI a H H1 := by
    obtain ⟨bs, b1, _⟩ := ri.hb
    obtain ⟨es, e1, _⟩ := ri.he
    exact FrI.same s1 ⟨_, b1⟩ ⟨_, e1⟩
  have sl1 : ¬ RgI H1 a sl := by
    obtain ⟨bs, b1, b2, b3, b4⟩ := ri.hb
    obtain ⟨es, e1, e2, e3, _, _, e4⟩ := ri.he
    rintro (z | z | ⟨bs', e, m⟩ | ⟨es', e, m⟩)
    · rw [z, b1] at n1; cases n1
    · rw [z, e1] at n1; cases n1
    · rw [s1 _ _ b1] at e
      cases e
      obtain ⟨d, hd, e⟩ := List.mem_map.mp m
      injection e with e
      subst e
      obtain ⟨j, hj⟩ := List.mem_iff_getElem?.mp hd
      have hjl := (List.getElem?_eq_some_iff.mp hj).1
      obtain ⟨kvs, z1, _⟩ := b4 j _ d (List.getElem?_eq_getElem (by rw [← b2]; exact hjl)) hj
      rw [n1] at z1; cases z1
    · rw [s1 _ _ e1] at e
      cases e
      obtain ⟨d, hd, e⟩ := List.mem_map.mp m
      injection e with e
      subst e
      obtain ⟨j, hj⟩ := List.mem_iff_getElem?.mp hd
      have hjl := (List.getElem?_eq_some_iff.mp hj).1
      have z1 := e4 j _ d (List.getElem?_eq_getElem (by rw [← e2]; exact hjl)) hj
      rw [n1] at z1; cases z1
  have lsy := syms_len t
  walk_at "rd"
  refine ⟨⟨_, SqL.of h1⟩, for_list (xs := syms t) (fun i σ' H' => ∃ (ps' : List (List Leaf)) (x3 x4 : Option V), σ' = [some (.ref a.p), some v, some (.int ((ixg ps' ((pre t).take i) : Nat) : Int)), x3, x4] ∧ FrI a H1 H' ∧ RiAt A.c_RuleIndex P w H' a ls ps' ∧ (pre t).take i ∈ ps' ∧ ps'.length ≤ ps.length + i) ?_ ?_ ?_ ?_⟩
  · have z0 : ixg ps [] = 0 := ixg_at ri.tr.nd ri.tr.zero
    exact ⟨ps, none, none, by rw [List.take_zero, z0]; rfl, FrI.refl _ _, ri.same s1, by rw [List.take_zero]; exact List.mem_of_getElem? ri.tr.zero, Nat.le_refl _⟩
  · rintro i σ' H' hi ⟨ps', x3, x4, rfl, fi, rj, cur, lq⟩
    exact SqL.of (fi.fr _ _ h1 sl1)
  · rintro i y σ' H' hi ⟨ps', x3, x4, rfl, fi, rj, cur, lq⟩
    have gk : (pre t)[i]? = some (lfV y) := by unfold pre; rw [List.getElem?_map, hi]; rfl
    have ek : (pre t).take (i + 1) = (pre t).take i ++ [lfV y] := list_take_succ gk
    have yk := syms_kind t y (List.mem_of_getElem? hi)
    generalize (pre t).take i = p at cur ek
    have hj := ixg_get cur
    generalize ixg ps' p = j at hj
    have il := (List.getElem?_eq_some_iff.mp hi).1
    obtain ⟨bs, b1, b2, b3, b4⟩ := rj.hb
    obtain ⟨es, e1, e2, e3, e5, e6, e4⟩ := rj.he
    have jl := (List.getElem?_eq_some_iff.mp hj).1
    have gd := List.getElem?_eq_getElem (l := bs) (i := j) (by omega)
    generalize bs[j]'(by omega) = d at gd
    obtain ⟨kvs, hd, bk, lk⟩ := b4 j p d hj gd
    have gdv : (bs.map V.ref)[j]? = some (.ref d) := by rw [List.getElem?_map, gd]; rfl
    dsimp only [gName]
    refine seq_join (t := tAsg _ _) (fun σ3 H3 => σ3 = [some (.ref a.p), some v, some (.int ((j : Nat) : Int)), some y, some (leafV (lfV y))] ∧ H3 = H') ?_ (fun Nx cont => ?_)
    rotate_left
    · rcases yk with ⟨n, rfl⟩ | ⟨f, rfl⟩
      · walk_at "ri"
        exact cont _ _ ⟨rfl, rfl⟩
      · walk_at "ri"
        exact cont _ _ ⟨rfl, rfl⟩
    rintro σ3 H3 ⟨rfl, rfl⟩
    have hob := rj.ob
    refine seq_join (t := tIfS _ _ _) (fun σ3 H4 => ∃ ps2 : List (List Leaf), σ3 = [some (.ref a.p), some v, some (.int ((j : Nat) : Int)), some y, some (leafV (lfV y))] ∧ FrI a H1 H4 ∧ RiAt A.c_RuleIndex P w H4 a ls ps2 ∧ p ++ [lfV y] ∈ ps2 ∧ ps2[j]? = some p ∧ ps2.length ≤ ps'.length + 1) ?_ (fun Nx cont => ?_)
    rotate_left
    · walk_at "rd"
      refine ⟨a.p, _, a.dx, _, _, rfl, hob, T.K_RuleIndex, T.N_RuleIndex__branches, f1, ?_⟩
      walk_at "rd"
      refine ⟨a.b, _, _, .ref d, rfl, rfl, SqL.of b1, atI_nat gdv, ?_⟩
      refine ⟨d, kvs, lfV y, rfl, hd, rfl, ?_⟩
      rw [bk (lfV y)]
      by_cases m : p ++ [lfV y] ∈ ps'
      · rw [if_pos m]
        refine ⟨_, rfl, ?_⟩
        refine (if_neg Bool.false_ne_true : ite _ _ _ = _).mpr ?_
        exact cont _ _ ⟨ps', rfl, fi, rj, m, hj, by omega⟩
      · rw [if_neg m]
        refine ⟨_, rfl, ?_⟩
        refine (if_pos rfl : ite _ _ _ = _).mpr ?_
        have bl : (bs.map V.ref).length = ps'.length := by rw [List.length_map, b2]
        walk_at "rd"
        refine ⟨a.p, _, a.dx, _, _, rfl, hob, T.K_RuleIndex, T.N_RuleIndex__branches, f1, ?_⟩
        walk_at "rd"
        refine ⟨a.p, _, a.dx, _, _, rfl, hob, T.K_RuleIndex, T.N_RuleIndex__branches, f1, ?_⟩
        walk_at "rd"
        refine ⟨a.b, _, _, .ref d, rfl, rfl, SqL.of b1, atI_nat gdv, ?_⟩
        refine ⟨_, rfl, d, kvs, lfV y, rfl, hd, rfl, Nat.lt_of_le_of_lt (show kvs.length ≤ 1010000 by omega) (by decide), ?_⟩
        rw [bl]
        have ad : a.p ≠ d := fun z => by rw [← z, hob] at hd; cases hd
        have abd : a.b ≠ d := fun z => by rw [← z, b1] at hd; cases hd
        have aed : a.e ≠ d := fun z => by rw [← z, e1] at hd; cases hd
        have apb : a.p ≠ a.b := fun z => by rw [z, b1] at hob; cases hob
        have ape : a.p ≠ a.e := fun z => by rw [z, e1] at hob; cases hob
        have neb := rj.ne
        generalize ehn : upd H3 d _ = H5
        have b5 := J.al_but ehn
        have h5 := J.al_at ehn
        clear ehn
        have ob5 := b5 _ _ hob ad
        have hb5 := b5 _ _ b1 abd
        have he5 := b5 _ _ e1 aed
        walk_at "rd"
        refine ⟨a.p, _, a.dx, _, _, rfl, ob5, T.K_RuleIndex, T.N_RuleIndex__branches, f1, ?_⟩
        refine ⟨.inl ⟨rfl, _, SqL.of hb5⟩, ?_⟩
        intro D nD
        generalize ehn : upd H5 D _ = H6
        have s6 := J.al_same nD ehn
        have h6 := J.al_at ehn
        clear ehn
        refine ⟨a.b, _, _, rfl, rfl, s6 _ _ hb5, Nat.lt_of_le_of_lt (show (bs.map V.ref).length ≤ 1010000 by omega) (by decide), ?_⟩
        have hb6 := s6 _ _ hb5
        generalize ehn : upd H6 a.b _ = H7
        have b7 := J.al_but ehn
        have h7 := J.al_at ehn
        clear ehn
        have ob7 := b7 _ _ (s6 _ _ ob5) apb
        have he7 := b7 _ _ (s6 _ _ he5) neb.symm
        walk_at "rd"
        refine ⟨a.p, _, a.dx, _, _, rfl, ob7, T.K_RuleIndex, T.N_RuleIndex__ends, f2, ?_⟩
        refine ⟨.inl ⟨rfl, _, SqL.of he7⟩, ?_⟩
        walk_at "rd"
        refine ⟨show 0 ≤ sizeLine by decide, ?_⟩
        first | intro L n8 | refine fun L n8 => ?_
        generalize ehn : upd H7 L _ = H8
        have s8 := J.al_same n8 ehn
        have h8 := J.al_at ehn
        clear ehn
        refine ⟨a.e, _, _, rfl, rfl, s8 _ _ he7, Nat.lt_of_le_of_lt (show (es.map V.ref).length ≤ 1010000 by rw [List.length_map]; omega) (by decide), ?_⟩
        have he8 := s8 _ _ he7
        generalize ehn : upd H8 a.e _ = H9
        have b9 := J.al_but ehn
        have h9 := J.al_at ehn
        clear ehn
        have f39 : ∀ b o, H3 b = some o → b ≠ d → b ≠ a.b → b ≠ a.e → H9 b = some o := fun b o e x1 x2 x3 => b9 _ _ (s8 _ _ (b7 _ _ (s6 _ _ (b5 _ _ e x1)) x2)) x3
        have D5 : H3 D = none := by
          cases e : H3 D with
          | none => rfl
          | some o =>
            by_cases z : D = d
            · rw [z, h5] at nD; cases nD
            · rw [b5 _ _ e z] at nD; cases nD
        have L7 : H3 L = none := by
          cases e : H3 L with
          | none => rfl
          | some o =>
            by_cases z : L = d
            · rw [z, b7 _ _ (s6 _ _ h5) abd.symm] at n8; cases n8
            · by_cases z2 : L = a.b
              · rw [z2, h7] at n8; cases n8
              · rw [b7 _ _ (s6 _ _ (b5 _ _ e z)) z2] at n8; cases n8
        have Dab : D ≠ a.b := fun z => by rw [z, b1] at D5; cases D5
        have Dae : D ≠ a.e := fun z => by rw [z, e1] at D5; cases D5
        have Lab : L ≠ a.b := fun z => by rw [z, b1] at L7; cases L7
        have Lae : L ≠ a.e := fun z => by rw [z, e1] at L7; cases L7
        have DL : D ≠ L := fun z => by rw [← z, b7 _ _ h6 Dab] at n8; cases n8
        have hB9 : H9 a.b = some (.lst ((bs ++ [D]).map V.ref)) := by rw [b9 _ _ (s8 _ _ h7) neb, List.map_append]; rfl
        have hE9 : H9 a.e = some (.lst ((es ++ [L]).map V.ref)) := by rw [h9, List.map_append]; rfl
        have hd9 : H9 d = _ := b9 _ _ (s8 _ _ (b7 _ _ (s6 _ _ h5) abd.symm)) aed.symm
        have hD9 : H9 D = some (NkO P w D []) := b9 _ _ (s8 _ _ (b7 _ _ h6 Dab)) Dae
        have hL9 : H9 L = some (.lst []) := b9 _ _ h8 Lae
        have mj := List.mem_of_getElem? hj
        obtain ⟨t1, t2, t3, t4⟩ := rj.tr.more mj m
        have md := List.mem_of_getElem? gd
        have kb : ∀ x ∈ bs, ∃ kv, H3 x = some (NkO P w x kv) := fun x hx => by
          obtain ⟨k, hk⟩ := List.mem_iff_getElem?.mp hx
          have hkl := (List.getElem?_eq_some_iff.mp hk).1
          obtain ⟨kv, z1, _⟩ := b4 k _ x (List.getElem?_eq_getElem (by rw [← b2]; exact hkl)) hk
          exact ⟨kv, z1⟩
        have ke : ∀ x ∈ es, ∃ l, H3 x = some (.lst l) := fun x hx => by
          obtain ⟨k, hk⟩ := List.mem_iff_getElem?.mp hx
          have hkl := (List.getElem?_eq_some_iff.mp hk).1
          exact ⟨_, e4 k _ x (List.getElem?_eq_getElem (by rw [← e2]; exact hkl)) hk⟩
        have fr39 : FrI a H3 H9 := by
          refine ⟨fun b o e nr => f39 b o e (fun z => nr (.inr (.inr (.inl ⟨_, b1, by rw [z]; exact List.mem_map.mpr ⟨d, md, rfl⟩⟩)))) (fun z => nr (.inl z)) fun z => nr (.inr (.inl z)), fun b h => ?_, fun b hb => ?_⟩
          · rcases h with h | h | ⟨us, e, mm⟩ | ⟨us, e, mm⟩
            · exact .inl (.inl h)
            · exact .inl (.inr (.inl h))
            · rw [hB9] at e; cases e
              obtain ⟨x, hx, e⟩ := List.mem_map.mp mm
              injection e with e
              subst e
              rcases List.mem_append.mp hx with hx | hx
              · exact .inl (.inr (.inr (.inl ⟨_, b1, List.mem_map.mpr ⟨x, hx, rfl⟩⟩)))
              · rw [List.mem_singleton.mp hx]; exact .inr D5
            · rw [hE9] at e; cases e
              obtain ⟨x, hx, e⟩ := List.mem_map.mp mm
              injection e with e
              subst e
              rcases List.mem_append.mp hx with hx | hx
              · exact .inl (.inr (.inr (.inr ⟨_, e1, List.mem_map.mpr ⟨x, hx, rfl⟩⟩)))
              · rw [List.mem_singleton.mp hx]; exact .inr L7
          · cases e : H3 b with
            | none => exact absurd e hb
            | some o =>
              by_cases x1 : b = d
              · rw [x1, hd9]; exact fun z => nomatch z
              · by_cases x2 : b = a.b
                · rw [x2, hB9]; exact fun z => nomatch z
                · by_cases x3 : b = a.e
                  · rw [x3, hE9]; exact fun z => nomatch z
                  · rw [f39 b o e x1 x2 x3]; exact fun z => nomatch z
        have jmem : ∀ {k : Nat} {q : List Leaf}, ps'[k]? = some q → q = p → k = j := fun {k q} hq e => by
          subst e
          exact (List.getElem?_inj (List.getElem?_eq_some_iff.mp hq).1 rj.tr.nd).mp (hq.trans hj.symm)
        refine cont _ _ ⟨ps' ++ [p ++ [lfV y]], rfl, fi.trans fr39, ⟨b9 _ _ (s8 _ _ ob7) ape, ⟨bs ++ [D], hB9, by rw [List.length_append, List.length_append, b2]; rfl, ?_, fun k q d' hq hd' => ?_⟩, ⟨es ++ [L], hE9, by rw [List.length_append, List.length_append, e2]; rfl, ?_, fun z => ?_, fun z => ?_, fun k q d' hq hd' => ?_⟩, neb, t1, fun l hl => List.mem_append_left _ (rj.all l hl)⟩, List.mem_append_right _ (List.mem_singleton.mpr rfl), by rw [List.getElem?_append_left jl]; exact hj, by rw [List.length_append]; exact Nat.le_refl _⟩
        · refine List.nodup_append.mpr ⟨b3, (by simp), fun x hx x' hx' e => ?_⟩
          rw [List.mem_singleton.mp hx'] at e
          obtain ⟨kv, z⟩ := kb x hx
          rw [e, D5] at z; cases z
        · by_cases hk : k < ps'.length
          · rw [List.getElem?_append_left hk] at hq
            rw [List.getElem?_append_left (by omega)] at hd'
            by_cases e : k = j
            · subst e
              rw [hj] at hq; cases hq
              rw [gd] at hd'; cases hd'
              exact ⟨_, hd9, t3 kvs bk, by rw [List.length_append]; exact Nat.le_trans (length_putK _ _ _) (Nat.succ_le_succ lk)⟩
            · obtain ⟨kv, z1, z2, z3⟩ := b4 k q d' hq hd'
              refine ⟨kv, f39 _ _ z1 (fun z => e ?_) (fun z => ?_) (fun z => ?_), t2 q kv (List.mem_of_getElem? hq) (fun z => e (jmem hq z)) z2, by rw [List.length_append]; omega⟩
              · subst z
                exact (List.getElem?_inj (List.getElem?_eq_some_iff.mp hd').1 b3).mp (hd'.trans gd.symm)
              · rw [z, b1] at z1; cases z1
              · rw [z, e1] at z1; cases z1
          · rw [List.getElem?_append_right (by omega)] at hq
            rw [List.getElem?_append_right (by omega), b2] at hd'
            have hk2 := (List.getElem?_eq_some_iff.mp hq).1
            have e0 : k - ps'.length = 0 := by
              have : k - ps'.length < 1 := hk2
              omega
            rw [e0] at hq hd'
            cases hq; cases hd'
            exact ⟨[], hD9, t4, Nat.zero_le _⟩
        · refine List.nodup_append.mpr ⟨e3, (by simp), fun x hx x' hx' e => ?_⟩
          rw [List.mem_singleton.mp hx'] at e
          obtain ⟨kv, z⟩ := ke x hx
          rw [e, L7] at z; cases z
        · rcases List.mem_append.mp z with z | z
          · exact e5 z
          · exact Lab (List.mem_singleton.mp z).symm
        · rcases List.mem_append.mp z with z | z
          · exact e6 z
          · exact Lae (List.mem_singleton.mp z).symm
        · by_cases hk : k < ps'.length
          · rw [List.getElem?_append_left hk] at hq
            rw [List.getElem?_append_left (by omega)] at hd'
            have z1 := e4 k q d' hq hd'
            have md' := List.mem_of_getElem? hd'
            exact f39 _ _ z1 (fun z => by rw [z, hd] at z1; cases z1) (fun z => e5 (z ▸ md')) fun z => e6 (z ▸ md')
          · rw [List.getElem?_append_right (by omega)] at hq
            rw [List.getElem?_append_right (by omega), e2] at hd'
            have hk2 := (List.getElem?_eq_some_iff.mp hq).1
            have e0 : k - ps'.length = 0 := by
              have : k - ps'.length < 1 := hk2
              omega
            rw [e0] at hq hd'
            cases hq; cases hd'
            have nil : numsP (fun l => decide (pre l = p ++ [lfV y])) ls = [] := by
              refine List.eq_nil_iff_forall_not_mem.mpr fun v hv => ?_
              obtain ⟨k, l, _, g, pe⟩ := numsP_mem.mp hv
              have := of_decide_eq_true pe
              exact m (this ▸ rj.all l (List.mem_of_getElem? g))
            rw [nil]; exact hL9
    rintro σ4 H4 ⟨ps2, rfl, fi4, r4, cur4, hj4, l4⟩
    obtain ⟨bs4, c1, c2, c3, c4⟩ := r4.hb
    have jl4 := (List.getElem?_eq_some_iff.mp hj4).1
    have gd4 := List.getElem?_eq_getElem (l := bs4) (i := j) (by omega)
    generalize bs4[j]'(by omega) = d4 at gd4
    obtain ⟨kvs4, hd4, bk4, _⟩ := c4 j p d4 hj4 gd4
    have gdv4 : (bs4.map V.ref)[j]? = some (.ref d4) := by rw [List.getElem?_map, gd4]; rfl
    walk_at "rd"
    refine ⟨a.p, _, a.dx, _, _, rfl, r4.ob, T.K_RuleIndex, T.N_RuleIndex__branches, f1, ?_⟩
    walk_at "rd"
    refine ⟨a.b, _, _, .ref d4, rfl, rfl, SqL.of c1, atI_nat gdv4, ?_⟩
    walk_at "rd"
    refine ⟨d4, kvs4, lfV y, _, rfl, hd4, rfl, (bk4 (lfV y)).trans (if_pos cur4), ?_⟩
    refine ⟨ps2, some y, some (leafV (lfV y)), ?_, fi4, r4, by rw [ek]; exact cur4, by omega⟩
    rw [ek]; rfl
  · rintro σ' H' ⟨ps', x3, x4, rfl, fi, rj, cur, lq⟩
    walk_at "rd"
    rw [List.take_of_length_le (by rw [lsy, preL_len]; exact Nat.le_refl _)] at cur ⊢
    exact q ps' H' (fi1.trans fi) rj cur (by omega)

/-! RuleIndex.__init__ -/
def sp_RuleIndex___init (C CI : Addr) (P : Program) (w : World) : Sp := fun vs H Q E => ∃ (p dx r : Addr) (ws : List V) (xs : List (Tm × Tm)), vs = [.ref p, .ref r] ∧ H p = some (.ins C dx []) ∧ H r = some (.lst ws) ∧ PrIn H ws xs ∧ xs.length ≤ 90 ∧ RulesOk xs ∧
  (fbad xs = none → ∀ a ps H', a.p = p → a.dx = dx → But p H H' → RiAt C P w H' a (xs.map (·.1)) ps → (∀ b, RgI H' a b → H b = none) → Q .non H') ∧ (∀ i : Nat, fbad xs = some i → ∀ d H', Same H H' → H' d = some (.xd [("index", .int (i : Int))]) → E (.ref CI) (some d) H')
set_option maxHeartbeats 1000000 in
theorem ok_RuleIndex___init (T : Tx K mg A) : FnOk P w K mg base (L2.CX P w) 6 A.a_RuleIndex___init A.d_RuleIndex___init ["self", "rules"] (sp_RuleIndex___init A.c_RuleIndex A.c_InvalidRule P w) := by
  have G_RuleIndex__branch := ok_RuleIndex__branch (P := P) (w := w) (base := base) T
  have G_check_rules := ok_check_rules (P := P) (w := w) (base := base) T
  refine T.F_RuleIndex___init.okX sc_RuleIndex___init (fun vs H Q E h => ?_) (fun cdv Ar outer s0 H vs Q E hr h => ?_)
  · obtain ⟨p, dx, r, ws, xs, rfl, _⟩ := h; rfl
  obtain ⟨p, dx, r, ws, xs, rfl, hp, hr0, hx, lx, ok, qS, qE⟩ := h
  refine ⟨_, (pss_cons (ps_expr (pe_call G_check_rules (hr.mono (by omega)) rfl T.m_check_rules T.F_check_rules.kp T.b_check_rules .nil (passes_call (takes_of rfl rfl rfl rfl) fun _ _ _ _ h => h) (pa_cons (pv 1) pa_nil)))
    (pss_cons (ps_fld (pv 0) (pe_lst (pa_cons (pe_dnewN) pa_nil)) rfl)
    (pss_cons (ps_fld (pv 0) (pe_lst (pa_cons (pe_lst pa_nil) pa_nil)) rfl)
    (pss_one (ps_for (passes_of rfl) rfl (pi_enum (by rfl) T.n_enumerate (pa_cons (pv 1) pa_nil)) (pg_tup (by rfl) (pgs_cons (pg_name (i := 2) sc_RuleIndex___init.nd rfl (Or.inl rfl)) (pgs_cons (pg_tup (by rfl) (pgs_cons (pg_name (i := 3) sc_RuleIndex___init.nd rfl (Or.inl rfl)) (pgs_cons (pg_name (i := 4) sc_RuleIndex___init.nd rfl (Or.inl rfl)) pgs_nil))) pgs_nil))) (pss_one (ps_expr (pe_bm PySem.F.plainAttrs_list PySem.F.slot_list_append PySem.F.type_list_append mt_append (pe_ix (r := rIxL K) ix_list (pe_fld (pv 0) rfl) (pe_meth (pv 0) T.K_RuleIndex T.H_RuleIndex__branch G_RuleIndex__branch (hr.mono (by omega)) T.b_RuleIndex__branch .nil pass0 (pa_cons (pv 3) pa_nil)) (fun _ _ => rfl)) (pa_cons (pv 2) pa_nil))))))))), ?_⟩
  walk_at "rd"
  refine ⟨r, ws, xs, rfl, hr0, hx, by omega, ok, fun fb H1 s1 => ?_, fun i fb d H1 s1 hd => qE i fb d H1 s1 hd⟩
  dsimp only [tSeq, sFld, tLst, tCons, tNil, tDNewN]
  refine fun d nd => ?_
  generalize ehn : upd H1 d _ = Y1
  have t1 := J.al_same nd ehn
  have e1 := J.al_at ehn
  clear ehn
  refine ⟨Nat.le_of_ble_eq_true rfl, fun B nB => ?_⟩
  generalize ehn : upd Y1 B _ = Y2
  have t2 := J.al_same nB ehn
  have e2 := J.al_at ehn
  clear ehn
  have hp2 := t2 _ _ (t1 _ _ (s1 _ _ hp))
  refine ⟨_, rfl, p, _, dx, [], rfl, hp2, T.K_RuleIndex, T.N_RuleIndex__branches, (by show 0 < 1000; decide), ?_⟩
  generalize ehn : upd Y2 p _ = H2
  have b2 := J.al_but ehn
  have h2 := J.al_at ehn
  clear ehn
  have h2 : H2 p = some (.ins A.c_RuleIndex dx [("_branches", .ref B)]) := h2
  refine ⟨Nat.zero_le _, fun L nL => ?_⟩
  generalize ehn : upd H2 L _ = Y3
  have t3 := J.al_same nL ehn
  have e3 := J.al_at ehn
  clear ehn
  refine ⟨Nat.le_of_ble_eq_true rfl, fun G nG => ?_⟩
  generalize ehn : upd Y3 G _ = Y4
  have t4 := J.al_same nG ehn
  have e4 := J.al_at ehn
  clear ehn
  have h4 := t4 _ _ (t3 _ _ h2)
  refine ⟨_, rfl, p, _, dx, _, rfl, h4, T.K_RuleIndex, T.N_RuleIndex__ends, (by show 1 < 1000; decide), ?_⟩
  rw [ria_f2]
  generalize ehn : upd Y4 p _ = H5
  have b5 := J.al_but ehn
  have h5 := J.al_at ehn
  clear ehn
  have dp : d ≠ p := fun z => by rw [z, s1 _ _ hp] at nd; cases nd
  have Bp : B ≠ p := fun z => by rw [z, t1 _ _ (s1 _ _ hp)] at nB; cases nB
  have Lp : L ≠ p := fun z => by rw [z, h2] at nL; cases nL
  have Gp : G ≠ p := fun z => by rw [z, t3 _ _ h2] at nG; cases nG
  have dB : d ≠ B := fun z => by rw [← z, e1] at nB; cases nB
  have k2 : ∀ b o, Y2 b = some o → b ≠ p → H5 b = some o := fun b o e x => b5 _ _ (t4 _ _ (t3 _ _ (b2 _ _ e x))) x
  have d2 := k2 _ _ (t2 _ _ e1) dp
  have B2 := k2 _ _ e2 Bp
  have L2' := b5 _ _ (t4 _ _ e3) Lp
  have G2 := b5 _ _ e4 Gp
  have k1 : ∀ b o, H b = some o → b ≠ p → H5 b = some o := fun b o e x => k2 _ _ (t2 _ _ (t1 _ _ (s1 _ _ e))) x
  have LG : L ≠ G := fun z => by rw [← z, e3] at nG; cases nG
  have BG : B ≠ G := fun z => by rw [← z, t3 _ _ (b2 _ _ e2 Bp)] at nG; cases nG
  have BL : B ≠ L := fun z => by rw [← z, b2 _ _ e2 Bp] at nL; cases nL
  have nn : ∀ b, b ≠ p → b = d ∨ b = B ∨ b = L ∨ b = G → H b = none := fun b bp hb => by
    cases e : H b with
    | none => rfl
    | some o =>
      have x1 := s1 _ _ e
      have x2 := t1 _ _ x1
      have x3 := b2 _ _ (t2 _ _ x2) bp
      have x4 := t3 _ _ x3
      rcases hb with rfl | rfl | rfl | rfl
      · rw [x1] at nd; cases nd
      · rw [x2] at nB; cases nB
      · rw [x3] at nL; cases nL
      · rw [x4] at nG; cases nG
  have start : RiAt A.c_RuleIndex P w H5 ⟨p, dx, B, G⟩ [] [[]] := by
    refine ⟨h5, ⟨[d], B2, rfl, (by simp), fun j q x hq hx => ?_⟩, ⟨[L], G2, rfl, (by simp), (by simpa using BL), (by simpa using LG.symm), fun j q x hq hx => ?_⟩, BG, Trie.start, fun l hl => nomatch hl⟩
    · have hj := (List.getElem?_eq_some_iff.mp hq).1
      have : j = 0 := by have : j < 1 := hj; omega
      subst this
      cases hq; cases hx
      refine ⟨[], d2, fun k => ?_, Nat.zero_le _⟩
      rw [if_neg]
      · rfl
      · rw [List.mem_singleton]; exact fun z => nomatch z
    · have hj := (List.getElem?_eq_some_iff.mp hq).1
      have : j = 0 := by have : j < 1 := hj; omega
      subst this
      cases hq; cases hx
      exact L2'
  have young : ∀ b, RgI H5 ⟨p, dx, B, G⟩ b → H b = none ∧ b ≠ p := fun b hb => by
    have bp : b ≠ p := fun z => by subst z; exact start.noins h5 hb
    refine ⟨nn b bp ?_, bp⟩
    rcases hb with hb | hb | ⟨us, e, m⟩ | ⟨us, e, m⟩
    · exact .inr (.inl hb)
    · exact .inr (.inr (.inr hb))
    · rw [B2] at e; cases e
      rw [List.mem_singleton] at m
      injection m with m
      exact .inl m
    · rw [G2] at e; cases e
      rw [List.mem_singleton] at m
      injection m with m
      exact .inr (.inr (.inl m))
  have hr5 := k1 _ _ hr0 (fun z => by rw [z, hp] at hr0; cases hr0)
  have pt : Tu H H5 := fun b vs e => k1 b _ e fun z => by rw [z, hp] at e; cases e
  have hx5 := hx.tu pt
  have wl := hx.length
  walk_at "rd"
  refine ⟨r, ws, rfl, SqL.of hr5, ?_⟩
  refine for_it (walk_enum (K := K) (a := r) (xs := ws)) (fun i σ' H' => ∃ (ps : List (List Leaf)) (x2 x3 x4 : Option V), σ' = [some (.ref p), some (.ref r), x2, x3, x4] ∧ FrI ⟨p, dx, B, G⟩ H5 H' ∧ RiAt A.c_RuleIndex P w H' ⟨p, dx, B, G⟩ ((xs.take i).map (·.1)) ps ∧ ps.length ≤ 1 + i * 10000) ?_ ?_ ?_ ?_
  · exact ⟨[[]], none, none, none, rfl, FrI.refl _ _, start, Nat.le_refl _⟩
  · rintro i σ' H' hi ⟨ps, x2, x3, x4, rfl, fi, ri, lp⟩
    exact SqL.of (fi.fr _ _ hr5 fun z => by have := (young _ z).1; rw [hr0] at this; cases this)
  · rintro i x0 σ' H6 H7 hi ⟨ps, x2, x3, x4, rfl, fi, ri, lp⟩ ⟨Tp, u0, w', rfl, nT, eH, eu, gw⟩
    cases eu
    have s12 := al_same nT eH.symm
    have hT := al_at eH.symm
    have rj := ri.same s12
    have xin := (hx5.tu (start.tu fi)).tu (tu_same s12)
    obtain ⟨x, b, u, v, gx, rfl, hb, hu, hv⟩ := xin.get gw
    obtain ⟨z1, z2, d1, d2⟩ := ok x (List.mem_of_getElem? gx)
    have il := (List.getElem?_eq_some_iff.mp gx).1
    refine ⟨Tp, _, rfl, SqT.of hT, rfl, _, _, rfl, _, _, rfl, b, _, rfl, SqT.of hb, rfl, _, _, rfl, _, _, rfl, rfl, rfl, ?_⟩
    walk_at "rd"
    refine ⟨p, _, dx, _, _, rfl, rj.ob, T.K_RuleIndex, T.N_RuleIndex__ends, ria_ends _, ?_⟩
    walk_at "rd"
    refine ⟨p, dx, _, rfl, rj.ob, ria_no _ (by decide +kernel) (by decide +kernel), ?_⟩
    walk_at "rd"
    refine ⟨⟨p, dx, B, G⟩, _, ps, u, x.1, rfl, rj, hu, z1, by omega, fun ps' H8 f8 r8 m8 l8 => ?_⟩
    have bj := r8.he
    obtain ⟨es, q1, q2, q3, q4, q5, q6⟩ := bj
    have mj := ixg_get m8
    have jl := ixg_lt m8
    have gd := List.getElem?_eq_getElem (l := es) (i := ixg ps' (pre x.1)) (by omega)
    generalize es[ixg ps' (pre x.1)]'(by omega) = e at gd
    have gdv : (es.map V.ref)[ixg ps' (pre x.1)]? = some (.ref e) := by rw [List.getElem?_map, gd]; rfl
    have he8 := q6 _ _ _ mj gd
    refine ⟨G, _, _, .ref e, rfl, rfl, SqL.of q1, atI_nat gdv, ?_⟩
    refine ⟨.inl ⟨rfl, _, SqL.of he8⟩, ?_⟩
    walk_at "rd"
    refine ⟨e, _, _, rfl, rfl, he8, Nat.lt_of_le_of_lt (show ((numsP (fun l => decide (pre l = pre x.1)) ((xs.take i).map (·.1))).map V.int).length ≤ 1000 by rw [List.length_map]; refine Nat.le_trans (numsP_len _ _) ?_; rw [List.length_map, List.length_take]; omega) (by decide), ?_⟩
    generalize ehn : upd H8 e _ = H9
    have b9 := J.al_but ehn
    have h9 := J.al_at ehn
    clear ehn
    have lti : ((xs.take i).map (·.1)).length = i := by rw [List.length_map, List.length_take]; omega
    obtain ⟨r9, f9⟩ := r8.add q1 gd m8 b9 (by rw [h9, lti])
    walk_at "rd"
    refine ⟨ps', _, _, _, rfl, ((fi.trans (FrI.same s12 ⟨_, (ri.hb).choose_spec.1⟩ ⟨_, (ri.he).choose_spec.1⟩)).trans f8).trans f9, ?_, by omega⟩
    rw [list_take_succ gx, List.map_append]
    exact r9
  · rintro σ' H' ⟨ps, x2, x3, x4, rfl, fi, ri, lp⟩
    rw [wl, List.take_length] at ri
    refine qS fb _ ps H' rfl rfl (fun b o hb bp => ?_) ri fun b hb => ?_
    · exact fi.fr _ _ (k1 _ _ hb bp) fun z => by have := (young _ z).1; rw [hb] at this; cases this
    · rcases fi.rg b hb with z | z
      · exact (young _ z).1
      · cases e : H b with
        | none => rfl
        | some o =>
          by_cases bp : b = p
          · rw [bp] at hb
            exact absurd hb (ri.noins ri.ob)
          · rw [k1 _ _ e bp] at z; cases z

/-! RuleIndex.candidates -/
def CaP (ps : List (List Leaf)) (ls : List Tm) (tot : List Int) (S : Nat) (p : Addr) (v : V) (F W : Addr) (H : Hp) : Nat → L2.St → Hp → Prop := fun m σ' H' => ∃ (fd : List Int) (wvs : List V) (wl : List (Nat × List Tm)) (x4 x5 x6 x7 x8 x9 : Option V), σ' = [some (.ref p), some v, some (.ref F), some (.ref W), x4, x5, x6, x7, x8, x9] ∧ H' F = some (.lst (fd.map V.int)) ∧ H' W = some (.lst wvs) ∧ WasIn H' wvs wl ∧
  (∀ x ∈ wl, x.1 < ps.length) ∧ (fd ++ wacs ps ls wl).Perm tot ∧ wawt wl = m ∧ (∀ (k : Nat) x, wl[k]? = some x → Tm.szs x.2 + k ≤ S) ∧ Same H H'
def sp_RuleIndex_candidates (C : Addr) (P : Program) (w : World) : Sp := fun vs H Q _ => ∃ (a : RiA) (ls : List Tm) (ps : List (List Leaf)) (v : V) (t : Tm) (fs : List Str) (B D : Int), vs = [.ref a.p, v] ∧ RiAt C P w H a ls ps ∧ TmIn H t v ∧ fs.Nodup ∧ t.wf fs B ∧ (∀ l ∈ ls, l.wf fs D) ∧ t.sz ≤ 10000 ∧ ls.length ≤ 1000 ∧
  ∀ p H', Same H H' → H p = none → H' p = some (.lst ((numsP (fun l => gen l t) ls).map V.int)) → Q (.ref p) H'
set_option maxHeartbeats 1000000 in
theorem ok_RuleIndex_candidates (T : Tx K mg A) : FnOk P w K mg base CX0 2 A.a_RuleIndex_candidates A.d_RuleIndex_candidates ["self", "term"] (sp_RuleIndex_candidates A.c_RuleIndex P w) := by

  refine T.F_RuleIndex_candidates.ok sc_RuleIndex_candidates (fun vs H Q E h => ?_) (fun cdv Ar outer s0 H vs Q E hr h => ?_)
  · obtain ⟨a, ls, ps, v, t, fs, B, D, rfl, _⟩ := h; rfl
  obtain ⟨a, ls, ps, v, t, fs, B, D, rfl, ri, ht, nd, wt, wl0, zt, ll, q⟩ := h
  refine ⟨_, (pss_cons (ps_set (i := 2) sc_RuleIndex_candidates.nd rfl (Or.inl rfl) (pe_lst pa_nil))
    (pss_cons (ps_set (i := 3) sc_RuleIndex_candidates.nd rfl (Or.inl rfl) (pe_lst (pa_cons (pe_tup (pa_cons pe_int (pa_cons (pe_tup (pa_cons (pv 1) (pa_cons pe_non pa_nil))) pa_nil))) pa_nil)))
    (pss_cons (ps_while PassesOwn.never (pt_truth (pv 3) (by intro _; rfl)) (pss_cons (ps_asg (pe_bm0 PySem.F.plainAttrs_list PySem.F.slot_list_pop PySem.F.type_list_pop mt_pop (pv 3)) (pg_tup (by rfl) (pgs_cons (pg_name (i := 4) sc_RuleIndex_candidates.nd rfl (Or.inl rfl)) (pgs_cons (pg_name (i := 5) sc_RuleIndex_candidates.nd rfl (Or.inl rfl)) pgs_nil))))
    (pss_cons (ps_if (pt_cmpR op_isN (pv 5) pe_non (nomark _)) (pss_cons (ps_expr (pe_bm PySem.F.plainAttrs_list PySem.F.slot_list_extend PySem.F.type_list_extend mt_extend (pv 2) (pa_cons (pe_ix (r := rIxL K) ix_list (pe_fld (pv 0) rfl) (pv 4) (fun _ _ => rfl)) pa_nil)))
    (pss_one ps_continue)) pss_nil)
    (pss_cons (ps_asg (pv 5) (pg_tup (by rfl) (pgs_cons (pg_name (i := 6) sc_RuleIndex_candidates.nd rfl (Or.inl rfl)) (pgs_cons (pg_name (i := 7) sc_RuleIndex_candidates.nd rfl (Or.inl rfl)) pgs_nil))))
    (pss_cons (ps_set (i := 8) sc_RuleIndex_candidates.nd rfl (Or.inl rfl) (pe_ix (r := rIxL K) ix_list (pe_fld (pv 0) rfl) (pv 4) (fun _ _ => rfl)))
    (pss_cons (ps_if (pt_cmp (pc_nin pe_non (pv 8))) (pss_one (ps_expr (pe_bm PySem.F.plainAttrs_list PySem.F.slot_list_append PySem.F.type_list_append mt_append (pv 3) (pa_cons (pe_tup (pa_cons (pe_nget (pv 8) pe_non (fun _ _ => rfl)) (pa_cons (pv 7) pa_nil))) pa_nil)))) pss_nil)
    (pss_one (ps_if (PW.pt (pw_and (pt_val (pe_callB (r := rIsi K) call_isi (by rfl) T.n_isinstance boot_isinstance (pa_cons (pv 6) (pa_cons (pe_bltn (v := .ty "tuple") (by rfl) T.n_tuple boot_tuple rfl) pa_nil)))) (pw_and1 (pt_cmp (pc_nin (pe_ix (r := rIxT K) ix_tup (pv 6) pe_int (fun _ _ => rfl)) (pv 8)))))) (pss_cons (ps_for PassesOwn.never rfl (pi_tup (pe_revT (pv 6))) (pg_name (i := 9) sc_RuleIndex_candidates.nd rfl (Or.inl rfl)) (pss_one (ps_set (i := 7) sc_RuleIndex_candidates.nd rfl (Or.inl rfl) (pe_tup (pa_cons (pv 9) (pa_cons (pv 7) pa_nil))))))
    (pss_one (ps_expr (pe_bm PySem.F.plainAttrs_list PySem.F.slot_list_append PySem.F.type_list_append mt_append (pv 3) (pa_cons (pe_tup (pa_cons (pe_nget (pv 8) (pe_ix (r := rIxT K) ix_tup (pv 6) pe_int (fun _ _ => rfl)) (fun _ _ => rfl)) (pa_cons (pv 7) pa_nil))) pa_nil))))) pss_nil))))))))
    (pss_one (ps_ret (pe_callB (r := rSortedI K) cr_sortedI (by rfl) T.n_sorted boot_sorted (pa_cons (pv 2) pa_nil))))))), ?_⟩
  have f1 : (RiA.fs a).lookup ("_branches" : Str) = some (.ref a.b) := ria_branches a
  have f2 : (RiA.fs a).lookup ("_ends" : Str) = some (.ref a.e) := ria_ends a
  have tr := ri.tr
  have all := ri.all
  have tsz := t.sz_pos
  walk_at "rd"
  refine ⟨show 0 ≤ sizeLine by decide, ?_⟩
  first | intro F n1 | refine fun F n1 => ?_
  generalize ehn : upd H F _ = H1
  have s1 := J.al_same n1 ehn
  have h1 := J.al_at ehn
  clear ehn
  walk_at "rd"
  refine ⟨show 2 ≤ sizeLine by decide, ?_⟩
  first | intro c0 n2 | refine fun c0 n2 => ?_
  generalize ehn : upd H1 c0 _ = H2
  have s2 := J.al_same n2 ehn
  have h2 := J.al_at ehn
  clear ehn
  refine ⟨show 2 ≤ sizeLine by decide, ?_⟩
  first | intro c1 n3 | refine fun c1 n3 => ?_
  generalize ehn : upd H2 c1 _ = H3
  have s3 := J.al_same n3 ehn
  have h3 := J.al_at ehn
  clear ehn
  refine ⟨show 1 ≤ sizeLine by decide, ?_⟩
  first | intro W n4 | refine fun W n4 => ?_
  generalize ehn : upd H3 W _ = H4
  have s4 := J.al_same n4 ehn
  have h4 := J.al_at ehn
  clear ehn
  dsimp only [gName]
  refine at_state (t := tSeq _ _) (σ' := [some (.ref a.p), some v, some (.ref F), some (.ref W), none, none, none, none, none, none]) rfl ?_
  have s04 : Same H H4 := s1.trans (s2.trans (s3.trans s4))
  have nF : H F = none := n1
  have nW : H W = none := (s1.trans (s2.trans s3)).free n4
  have FW : F ≠ W := fun z => by rw [← z, s3 _ _ (s2 _ _ h1)] at n4; cases n4
  have z0 : ps.getD 0 [] = [] := getD_of tr.zero
  have p0 : 0 < ps.length := (List.getElem?_eq_some_iff.mp tr.zero).1
  refine while_listM (K := K) (CaP ps ls (numsP (candB [] [t]) ls) t.sz a.p v F W H) (3 ^ t.sz) ?_ ?_
  · refine ⟨[], _, [(0, [t])], none, none, none, none, none, none, rfl, s4 _ _ (s3 _ _ (s2 _ _ h1)), h4, ⟨rfl, fun i w x hw hx => ?_⟩, fun x hx => by rw [List.mem_singleton.mp hx]; exact p0, ?_, ?_, fun k x hx => ?_, s04⟩
    · cases i with
      | zero =>
        cases hw; cases hx
        exact ⟨c1, .ref c0, rfl, s4 _ _ h3, c0, v, .non, rfl, s4 _ _ (s3 _ _ h2), ht.tu (tu_same s04), rfl⟩
      | succ i => simp at hw
    · show ([] ++ wacs ps ls [(0, [t])]).Perm _
      unfold wacs
      show (numsP (candB (ps.getD 0 []) [t]) ls ++ []).Perm _
      rw [List.append_nil, z0]
    · show (3 ^ (t.sz + 0) + 0 : Nat) = _
      rw [Nat.add_zero, Nat.add_zero]
    · cases k with
      | zero => cases hx; show t.sz + 0 + 0 ≤ t.sz; omega
      | succ k => simp at hx
  · rintro m σ' H' ⟨fd, wvs, wl, x4, x5, x6, x7, x8, x9, rfl, hF, hW, hwa, hlt, hpm, hm, hsz, k⟩
    have rik := ri.same k
    refine ⟨W, wvs, rfl, hW, fun z => ?_, fun z => ?_⟩
    · subst z
      have : wl = [] := List.length_eq_zero_iff.mp hwa.1.symm
      subst this
      have hpm : (fd ++ []).Perm (numsP (candB [] [t]) ls) := hpm
      rw [List.append_nil, cand_gen nd wl0 wt] at hpm
      walk_at "rd"
      refine ⟨F, fd, rfl, SqL.of hF, fun ns' p9 pm so np => ?_⟩
      rw [sort_eq (pm.trans hpm) so (numsP_asc _ _)]
      exact q p9 _ (k.trans (same_new np _)) (k.free np) upd_same
    · obtain ⟨wvs', w, wl', x, rfl, rfl, hx, hwa'⟩ := hwa.pop z
      obtain ⟨br, ch⟩ := x
      have lt := hlt _ (List.mem_append_right _ (List.mem_singleton.mpr rfl))
      have hlt' : ∀ x ∈ wl', x.1 < ps.length := fun x hx => hlt x (List.mem_append_left _ hx)
      have szx := hsz wl'.length (br, ch) (by rw [List.getElem?_append_right (Nat.le_refl _), Nat.sub_self]; rfl)
      have hsz' : ∀ (k : Nat) x, wl'[k]? = some x → Tm.szs x.2 + k ≤ t.sz := fun k x hx => hsz k x (by rw [List.getElem?_append_left (List.getElem?_eq_some_iff.mp hx).1]; exact hx)
      have lt : br < ps.length := lt
      have szx : Tm.szs ch + wl'.length ≤ t.sz := szx
      rw [wacs_snoc, ← List.append_assoc] at hpm
      rw [wawt_snoc] at hm
      have hm : wawt wl' + 3 ^ Tm.szs ch = m := hm
      obtain ⟨wa, cv, rfl, hwt, hch⟩ := hx
      have lenp := hpm.length_eq
      rw [List.length_append, List.length_append] at lenp
      have tl1 := numsP_len (candB [] [t]) ls
      have gp := List.getElem?_eq_getElem lt
      generalize ps[br] = pth at gp
      have dp := getD_of gp
      have hpm : (fd ++ wacs ps ls wl' ++ numsP (candB pth ch) ls).Perm (numsP (candB [] [t]) ls) := by rw [← dp]; exact hpm
      walk_at "rd"
      refine ⟨.inl ⟨rfl, _, SqL.of hW⟩, W, _, .ref wa, rfl, rfl, hW, by rw [List.length_append, List.length_singleton, Nat.add_sub_cancel, List.getElem?_append_right (Nat.le_refl _), Nat.sub_self]; rfl, ?_⟩
      rw [List.dropLast_concat]
      generalize ehn : upd H' W _ = H5
      have b5 := J.al_but ehn
      have h5 := J.al_at ehn
      clear ehn
      have tu5 : Tu H' H5 := but_tu b5 (lst_not_tup hW)
      have hF5 := b5 _ _ hF FW
      have k5 : Same H H5 := fun c o e => b5 c o (k c o e) fun z => by rw [z, nW] at e; cases e
      have ri5 := ri.same k5
      have hwt5 := tu5 _ _ hwt
      have hch5 := hch.tu tu5
      have hwa5 := hwa'.tu tu5
      refine ⟨wa, _, rfl, SqT.of hwt5, rfl, _, _, rfl, _, _, rfl, rfl, ?_⟩
      dsimp only [gName]
      refine at_state (t := tSeq _ _) (σ' := [some (.ref a.p), some v, some (.ref F), some (.ref W), some (.int (br : Int)), some cv, x6, x7, x8, x9]) rfl ?_
      walk_at "rd"
      cases ch with
      | nil =>
        have : cv = .non := hch5
        subst this
        rw [decide_eq_true rfl]
        refine (if_pos rfl : ite _ _ _ = _).mpr ?_
        obtain ⟨es, e1, e2, e3, e5, e6, e4⟩ := ri5.he
        have gL := List.getElem?_eq_getElem (l := es) (i := br) (by omega)
        generalize es[br]'(by omega) = L at gL
        have hL5 := e4 br pth L gp gL
        have gLv : (es.map V.ref)[br]? = some (.ref L) := by rw [List.getElem?_map, gL]; rfl
        walk_at "rd"
        refine ⟨.inl ⟨rfl, _, SqL.of hF5⟩, ?_⟩
        walk_at "rd"
        refine ⟨a.p, _, a.dx, _, _, rfl, ri5.ob, T.K_RuleIndex, T.N_RuleIndex__ends, f2, ?_⟩
        walk_at "rd"
        refine ⟨a.e, _, _, .ref L, rfl, rfl, SqL.of e1, atI_nat gLv, ?_⟩
        have nl := numsP_len (fun l => decide (pre l = pth)) ls
        refine ⟨F, L, _, _, rfl, rfl, hF5, hL5, Nat.le_trans (show (fd.map V.int).length + ((numsP (fun l => decide (pre l = pth)) ls).map V.int).length ≤ 4000 by rw [List.length_map, List.length_map]; omega) (by decide), ?_⟩
        generalize ehn : upd H5 F _ = H6
        have b6 := J.al_but ehn
        have h6 := J.al_at ehn
        clear ehn
        have tu6 : Tu H5 H6 := but_tu b6 (lst_not_tup hF5)
        have en : numsP (candB pth []) ls = numsP (fun l => decide (pre l = pth)) ls := numsP_congr fun l _ => candB_end
        refine less_of (P := CaP ps ls (numsP (candB [] [t]) ls) t.sz a.p v F W H) (k := wawt wl') ⟨fd ++ numsP (fun l => decide (pre l = pth)) ls, wvs', wl', _, _, _, _, _, _, rfl, by rw [h6, List.map_append], b6 _ _ h5 FW.symm, hwa5.tu tu6, hlt', ?_, rfl, hsz', fun c o e => b6 c o (k5 c o e) fun z => by rw [z, nF] at e; cases e⟩ ?_
        · rw [en] at hpm
          refine List.Perm.trans ?_ hpm
          rw [List.append_assoc, List.append_assoc]
          exact (List.perm_append_comm).append_left fd
        · have : (3 : Nat) ^ Tm.szs [] = 1 := rfl
          omega
      | cons t0 ts =>
        obtain ⟨ca, tv, rv, rfl, hca, hT, hR⟩ := hch5
        rw [decide_eq_false (show ¬ V.ref ca = V.non from fun z => nomatch z)]
        refine (if_neg (by decide) : ite _ _ _ = _).mpr ?_
        dsimp only [tNext]
        walk_at "rd"
        refine ⟨ca, _, rfl, SqT.of hca, rfl, _, _, rfl, _, _, rfl, rfl, ?_⟩
        obtain ⟨bs, c1', c2, c3, c4⟩ := ri5.hb
        have gD := List.getElem?_eq_getElem (l := bs) (i := br) (by omega)
        generalize bs[br]'(by omega) = D at gD
        obtain ⟨kvs, hD, bk, _⟩ := c4 br pth D gp gD
        have gDv : (bs.map V.ref)[br]? = some (.ref D) := by rw [List.getElem?_map, gD]; rfl
        have hob := ri5.ob
        walk_at "rd"
        refine ⟨a.p, _, a.dx, _, _, rfl, hob, T.K_RuleIndex, T.N_RuleIndex__branches, f1, ?_⟩
        walk_at "rd"
        refine ⟨a.b, _, _, .ref D, rfl, rfl, SqL.of c1', atI_nat gDv, ?_⟩
        dsimp only [gName]
        refine at_state (t := tSeq _ _) (σ' := [some (.ref a.p), some v, some (.ref F), some (.ref W), some (.int (br : Int)), some (.ref ca), some tv, some rv, some (.ref D), x9]) rfl ?_
        have pm := List.mem_of_getElem? gp
        have szc : Tm.szs (t0 :: ts) = t0.sz + Tm.szs ts := rfl
        have t0p := t0.sz_pos
        obtain ⟨S1, hS1⟩ : ∃ S1, Tm.szs (t0 :: ts) = S1 + 1 := ⟨Tm.szs (t0 :: ts) - 1, by omega⟩
        have hpm2 : (fd ++ wacs ps ls wl' ++ numsP (candB (pth ++ [.none]) ts) ls ++ numsP (textB pth t0 ts) ls).Perm (numsP (candB [] [t]) ls) := by
          refine List.Perm.trans ?_ hpm
          rw [List.append_assoc (fd ++ wacs ps ls wl')]
          exact ((numsP_split (fun l _ => candB_step pth t0 ts l) (fun l _ => candB_apart pth t0 ts l)).symm).append_left _
        rw [hS1] at hm szx
        have out : ∀ q us, q ∉ ps → numsP (candB q us) ls = [] := fun q us hq => by
          refine List.eq_nil_iff_forall_not_mem.mpr fun x hx => ?_
          obtain ⟨k, l, _, g, pe⟩ := numsP_mem.mp hx
          rw [candB_out tr (all l (List.mem_of_getElem? g)) hq] at pe
          cases pe
        refine seq_join (t := tIfS _ _ _) (fun σ3 H6 => ∃ (wvs1 : List V) (wl1 : List (Nat × List Tm)), σ3 = [some (.ref a.p), some v, some (.ref F), some (.ref W), some (.int (br : Int)), some (.ref ca), some tv, some rv, some (.ref D), x9] ∧ But W H5 H6 ∧ H6 W = some (.lst wvs1) ∧ WasIn H6 wvs1 wl1 ∧ (∀ x ∈ wl1, x.1 < ps.length) ∧
          (fd ++ wacs ps ls wl1 ++ numsP (textB pth t0 ts) ls).Perm (numsP (candB [] [t]) ls) ∧ wawt wl1 ≤ wawt wl' + 3 ^ S1 ∧ (∀ (k : Nat) x, wl1[k]? = some x → Tm.szs x.2 + k ≤ t.sz) ∧ wl1.length ≤ wl'.length + 1) ?_ (fun Nx cont => ?_)
        rotate_left
        · walk_at "rd"
          refine ⟨D, kvs, Leaf.none, rfl, hD, rfl, ?_⟩
          refine ⟨_, rfl, ?_⟩
          rw [bk Leaf.none]
          by_cases mq : pth ++ [Leaf.none] ∈ ps
          · rw [if_pos mq]
            refine (if_pos rfl : ite _ _ _ = _).mpr ?_
            walk_at "rd"
            refine ⟨.inl ⟨rfl, _, SqL.of h5⟩, ?_⟩
            walk_at "rd"
            refine ⟨D, kvs, Leaf.none, _, rfl, hD, rfl, (bk Leaf.none).trans (if_pos mq), ?_⟩
            walk_at "rd"
            refine ⟨show 2 ≤ sizeLine by decide, ?_⟩
            first | intro c n6 | refine fun c n6 => ?_
            generalize ehn : upd H5 c _ = H6
            have s6 := J.al_same n6 ehn
            have h6 := J.al_at ehn
            clear ehn
            have hW6 := s6 _ _ h5
            refine ⟨W, _, _, rfl, rfl, hW6, Nat.lt_of_le_of_lt (show wvs'.length ≤ 20000 by have := hwa5.1; omega) (by decide), ?_⟩
            generalize ehn : upd H6 W _ = H7
            have b7 := J.al_but ehn
            have h7 := J.al_at ehn
            clear ehn
            have tu7 : Tu H6 H7 := but_tu b7 (lst_not_tup hW6)
            have tu57 := (tu_same s6).trans tu7
            refine cont _ _ ⟨_, wl' ++ [(ixg ps (pth ++ [Leaf.none]), ts)], rfl, (but_same s6).trans b7, h7, (hwa5.tu tu57).snoc ⟨c, rv, rfl, tu7 _ _ h6, hR.tu tu57⟩, fun x hx => ?_, ?_, ?_, fun k x hx => ?_, by rw [List.length_append]; exact Nat.le_refl _⟩
            · rcases List.mem_append.mp hx with h | h
              · exact hlt' x h
              · rw [List.mem_singleton.mp h]; exact ixg_lt mq
            · rw [wacs_snoc, getD_of (ixg_get mq), ← List.append_assoc]
              exact hpm2
            · rw [wawt_snoc]
              have : 3 ^ Tm.szs ts ≤ 3 ^ S1 := Nat.pow_le_pow_right (by decide) (by omega)
              exact Nat.add_le_add_left this _
            · by_cases hk : k < wl'.length
              · rw [List.getElem?_append_left hk] at hx; exact hsz' k x hx
              · rw [List.getElem?_append_right (by omega)] at hx
                have hk2 := (List.getElem?_eq_some_iff.mp hx).1
                have hk2 : k - wl'.length < 1 := hk2
                have e0 : k - wl'.length = 0 := by omega
                rw [e0] at hx
                cases hx
                show Tm.szs ts + k ≤ t.sz
                omega
          · rw [if_neg mq]
            refine (if_neg Bool.false_ne_true : ite _ _ _ = _).mpr ?_
            rw [out _ ts mq, List.append_nil] at hpm2
            exact cont _ _ ⟨wvs', wl', rfl, But.refl _ _, h5, hwa5, hlt', hpm2, Nat.le_add_right _ _, hsz', Nat.le_succ _⟩
        · rintro σ3 H6 ⟨wvs1, wl1, rfl, b56, hW6, hwa6, hlt1, hpm3, hw1, hsz1, hl1⟩
          have tu6 : Tu H5 H6 := but_tu b56 (lst_not_tup h5)
          have k6 : Same H H6 := fun c o e => b56 c o (k5 c o e) fun z => by rw [z, nW] at e; cases e
          have hF6 := b56 _ _ hF5 FW
          have DW : D ≠ W := fun z => by rw [z, h5] at hD; cases hD
          have hD6 := b56 _ _ hD DW
          have hR6 := hR.tu tu6
          have pw : (3 : Nat) ^ (S1 + 1) = 3 ^ S1 * 3 := rfl
          have pp : 1 ≤ (3 : Nat) ^ S1 := Nat.pow_pos (by decide)
          have fin : textB pth t0 ts = (fun _ => false) ∨ numsP (textB pth t0 ts) ls = [] → CaP ps ls (numsP (candB [] [t]) ls) t.sz a.p v F W H (wawt wl1) [some (.ref a.p), some v, some (.ref F), some (.ref W), some (.int (br : Int)), some (.ref ca), some tv, some rv, some (.ref D), x9] H6 := fun h => by
            have e0 : numsP (textB pth t0 ts) ls = [] := by
              rcases h with h | h
              · rw [h]
                refine List.eq_nil_iff_forall_not_mem.mpr fun x hx => ?_
                obtain ⟨_, _, _, _, pe⟩ := numsP_mem.mp hx
                cases pe
              · exact h
            rw [e0, List.append_nil] at hpm3
            exact ⟨fd, wvs1, wl1, _, _, _, _, _, _, rfl, hF6, hW6, hwa6, hlt1, hpm3, rfl, hsz1, k6⟩
          cases t0 with
          | var n =>
            cases (show tv = .int n from hT)
            refine tt_at (t := tAnd _ _) false (fun Qf hq => ?_) ?_
            · walk_at "ri"
              exact hq
            · refine (if_neg (by decide) : ite _ _ _ = _).mpr ?_
              exact less_of (P := CaP ps ls (numsP (candB [] [t]) ls) t.sz a.p v F W H) (fin (.inl rfl)) (by omega)
          | app f us =>
            obtain ⟨ta, uvs, rfl, hta, hus⟩ := hT
            have hta6 := tu6 _ _ hta
            have hus6 := hus.tu tu6
            by_cases mq : pth ++ [Leaf.text f] ∈ ps
            · refine tt_at (t := tAnd _ _) true (fun Qf hq => ?_) ?_
              · walk_at "ri"
                refine ⟨D, kvs, Leaf.text f, rfl, hD6, rfl, ?_⟩
                rw [bk (Leaf.text f), if_pos mq]
                exact ⟨_, rfl, hq⟩
              · refine (if_pos rfl : ite _ _ _ = _).mpr ?_
                walk_at "rd"
                refine ⟨ta, .str f, uvs, rfl, SqT.of hta6, ?_⟩
                first | intro y7 n7 | refine fun y7 n7 => ?_
                generalize ehn : upd H6 y7 _ = H7
                have s7 := J.al_same n7 ehn
                have h7 := J.al_at ehn
                clear ehn
                have hurev : TmsIn H7 us.reverse uvs.reverse := (hus6.tu (tu_same s7)).rev
                refine ⟨_, rfl, ⟨_, SqT.of h7⟩, for_tup (xs := uvs.reverse) (fun i σ' H8 => ∃ (rv' : V) (x9 : Option V), σ' = [some (.ref a.p), some v, some (.ref F), some (.ref W), some (.int (br : Int)), some (.ref ca), some (.ref ta), some rv', some (.ref D), x9] ∧ ChIn H8 ((us.reverse.take i).reverse ++ ts) rv' ∧ Same H7 H8) ?_ ?_ ?_ ?_⟩
                · exact ⟨rv, x9, rfl, hR6.tu (tu_same s7), Same.refl _⟩
                · rintro i σ' H8 hi ⟨rv', x9, rfl, hc8, k8⟩
                  exact SqT.of (k8 _ _ h7)
                · rintro i yv σ' H8 hi ⟨rv', x9, rfl, hc8, k8⟩
                  obtain ⟨u, gu, hu⟩ := hurev.get hi
                  walk_at "rd"
                  refine ⟨show 2 ≤ sizeLine by decide, ?_⟩
                  first | intro c n9 | refine fun c n9 => ?_
                  generalize ehn : upd H8 c _ = H9
                  have s9 := J.al_same n9 ehn
                  have h9 := J.al_at ehn
                  clear ehn
                  refine ⟨_, _, rfl, ?_, k8.trans s9⟩
                  rw [list_take_succ gu, List.reverse_append]
                  exact ⟨c, yv, rv', rfl, h9, hu.tu (tu_same (k8.trans s9)), hc8.tu (tu_same s9)⟩
                · rintro σ' H8 ⟨rv', x9, rfl, hc8, k8⟩
                  rw [List.length_reverse, hus.length, ← List.length_reverse, List.take_length, List.reverse_reverse] at hc8
                  have k68 := s7.trans k8
                  have hta8 := k68 _ _ hta6
                  have hD8 := k68 _ _ hD6
                  have hW8 := k68 _ _ hW6
                  walk_at "rd"
                  refine ⟨.inl ⟨rfl, _, SqL.of hW8⟩, ?_⟩
                  walk_at "rd"
                  refine ⟨D, kvs, Leaf.text f, _, rfl, hD8, rfl, (bk (Leaf.text f)).trans (if_pos mq), ?_⟩
                  walk_at "rd"
                  refine ⟨show 2 ≤ sizeLine by decide, ?_⟩
                  first | intro c n9 | refine fun c n9 => ?_
                  generalize ehn : upd H8 c _ = H9
                  have s9 := J.al_same n9 ehn
                  have h9 := J.al_at ehn
                  clear ehn
                  have hW9 := s9 _ _ hW8
                  refine ⟨W, _, _, rfl, rfl, hW9, Nat.lt_of_le_of_lt (show wvs1.length ≤ 20000 by have := hwa6.1; omega) (by decide), ?_⟩
                  generalize ehn : upd H9 W _ = H10
                  have b10 := J.al_but ehn
                  have h10 := J.al_at ehn
                  clear ehn
                  have tu10 : Tu H9 H10 := but_tu b10 (lst_not_tup hW9)
                  have tu610 := (tu_same (k68.trans s9)).trans tu10
                  have su : Tm.szs (us ++ ts) = S1 := by
                    have h1 : Tm.szs (Tm.app f us :: ts) = (1 + Tm.szs us) + Tm.szs ts := rfl
                    rw [szs_app]; omega
                  refine less_of (P := CaP ps ls (numsP (candB [] [t]) ls) t.sz a.p v F W H) (k := wawt (wl1 ++ [(ixg ps (pth ++ [Leaf.text f]), us ++ ts)])) ⟨fd, _, wl1 ++ [(ixg ps (pth ++ [Leaf.text f]), us ++ ts)], _, _, _, _, _, _, rfl, b10 _ _ (s9 _ _ (k68 _ _ hF6)) FW, h10, (hwa6.tu tu610).snoc ⟨c, rv', rfl, tu10 _ _ h9, hc8.tu ((tu_same s9).trans tu10)⟩, fun x hx => ?_, ?_, rfl, fun k x hx => ?_, fun c o e => b10 _ _ (s9 _ _ (k68 _ _ (k6 _ _ e))) fun z => by rw [z, nW] at e; cases e⟩ ?_
                  · rcases List.mem_append.mp hx with h | h
                    · exact hlt1 x h
                    · rw [List.mem_singleton.mp h]; exact ixg_lt mq
                  · rw [wacs_snoc, getD_of (ixg_get mq), ← List.append_assoc]
                    exact hpm3
                  · by_cases hk : k < wl1.length
                    · rw [List.getElem?_append_left hk] at hx; exact hsz1 k x hx
                    · rw [List.getElem?_append_right (by omega)] at hx
                      have hk2 := (List.getElem?_eq_some_iff.mp hx).1
                      have hk2 : k - wl1.length < 1 := hk2
                      have e0 : k - wl1.length = 0 := by omega
                      rw [e0] at hx
                      cases hx
                      show Tm.szs (us ++ ts) + k ≤ t.sz
                      omega
                  · rw [wawt_snoc]
                    show wawt wl1 + 3 ^ Tm.szs (us ++ ts) < m
                    rw [su]
                    omega
            · refine tt_at (t := tAnd _ _) false (fun Qf hq => ?_) ?_
              · walk_at "ri"
                refine ⟨D, kvs, Leaf.text f, rfl, hD6, rfl, ?_⟩
                rw [bk (Leaf.text f), if_neg mq]
                exact ⟨_, rfl, hq⟩
              · refine (if_neg (by decide) : ite _ _ _ = _).mpr ?_
                exact less_of (P := CaP ps ls (numsP (candB [] [t]) ls) t.sz a.p v F W H) (fin (.inr (out _ _ mq))) (by omega)

/-! _law_refused -/
def sp_u_law_refused : Sp := fun vs H Q _ => ∃ (a : Addr) (ws : List V) (xs : List (Tm × Tm)), vs = [.ref a] ∧ H a = some (.lst ws) ∧ PrIn H ws xs ∧ xs.length ≤ 90 ∧ RulesOk xs ∧ fbad xs = some (xs.length - 1) ∧ xs.length ≠ 0 ∧ ∀ H', Same H H' → Q (.bl true) H'
theorem ok_u_law_refused (T : Tx K mg A) : FnOk P w K mg base CX0 (64) A.a_u_law_refused A.d_u_law_refused ["rules"] sp_u_law_refused := by
  have G_RuleIndex___init := ok_RuleIndex___init (P := P) (w := w) (base := base) T
  refine T.F_u_law_refused.ok sc_u_law_refused (fun vs H Q E h => ?_) (fun cdv Ar outer s0 H vs Q E hr h => ?_)
  · obtain ⟨a, ws, xs, rfl, _⟩ := h; rfl
  obtain ⟨a, ws, xs, rfl, ha, hp, hl, ok, hf, ne, q⟩ := h
  refine ⟨_, (pss_cons (ps_try_as (i := 1) rfl rfl sc_u_law_refused.nd rfl rfl ⟨rfl, by decide, .inl T.E_InvalidRule.gC⟩ takes0 (fun W pn xe tk _ => (pss_one (ps_expr (pe_makeS T.M_RuleIndex G_RuleIndex___init (hr.mono (by omega)) rfl T.g_RuleIndex T.b_RuleIndex___init (fun σ => passAt tk σ) (pa_cons (pv 0) pa_nil))))) (fun ea oe cls d pn hz hf => pss_assume (p := cls = .ref A.c_InvalidRule) fun hp => (pss_one (ps_ret (pe_cmpR op_eq (pe_xf T.E_InvalidRule.xC T.nf_index hz hf (pv 1)) (pe_op op_sub (pe_callB (r := rLenS K) j_len (by rfl) T.n_len PySem.boot_len (pa_cons (pv 0) pa_nil)) pe_int) (nomark _))))))
    (pss_one (ps_ret pe_bl))), ?_⟩
  walk_at "rd"
  refine fun x xd nx nxd ne' => ?_
  have s0 : Same H (upd (upd H xd (.own x)) x (.ins A.c_RuleIndex xd [])) := fun b o e => by
    rw [upd_ne (ne_of_none e nx), upd_ne (ne_of_none e nxd)]
    exact e
  have h0 : upd (upd H xd (.own x)) x (.ins A.c_RuleIndex xd []) x = some (.ins A.c_RuleIndex xd []) := upd_same
  generalize upd (upd H xd (.own x)) x (.ins A.c_RuleIndex xd []) = H0 at s0 h0
  refine ⟨x, xd, a, ws, xs, rfl, h0, s0 _ _ ha, hp.tu (tu_same s0), hl, ok, ⟨fun z => (by rw [hf] at z; cases z), fun i hi d H' s' hd => ?_⟩⟩
  rw [hf] at hi
  cases hi
  refine ⟨true, T.E_InvalidRule.eC, fun _ a9 ha9 => ⟨rfl, ?_⟩, fun z => nomatch z⟩
  walk_at "rd"
  refine ⟨d, _, .int _, rfl, hd, rfl, ?_⟩
  have s2 := s0.trans s'
  walk_at "rd"
  refine ⟨a, _, rfl, .inl (SqL.of (s2 _ _ ha)), ?_⟩
  have wl := hp.length
  walk_at "rd"
  rw [wl]
  have en : ((xs.length : Nat) : Int) - 1 = ((xs.length - 1 : Nat) : Int) := by omega
  dsimp only
  rw [decide_eq_true (show V.int ((xs.length - 1 : Nat) : Int) = V.int ((xs.length : Int) - 1) by rw [en])]
  exact q _ s2

/-! _law_positions -/
def sp_u_law_positions (N : Nat) : Sp := fun vs H Q _ => ∃ (v : V) (t : Tm), vs = [v] ∧ TmIn H t v ∧ t.sz ≤ 100000 ∧ t.dep ≤ N ∧ ∀ p H', Same H H' → H p = none → PosIn H' p (poss t) → Q (.ref p) H'
theorem st_u_law_positions (T : Tx K mg A) (N : Nat) (G_u_law_positions : FnOk P w K mg base CX0 (N + 1) A.a_u_law_positions A.d_u_law_positions ["term"] (sp_u_law_positions N)) : FnOk P w K mg base CX0 (N + 2) A.a_u_law_positions A.d_u_law_positions ["term"] (sp_u_law_positions (N + 1)) := by

  refine T.F_u_law_positions.ok sc_u_law_positions (fun vs H Q E h => ?_) (fun cdv Ar outer s0 H vs Q E hr h => ?_)
  · obtain ⟨v, t, rfl, _⟩ := h; rfl
  obtain ⟨v, t, rfl, ht, hz, hd, q⟩ := h
  refine ⟨_, (pss_cons (ps_set (i := 1) sc_u_law_positions.nd rfl (Or.inl rfl) (pe_lst (pa_cons (pe_tup pa_nil) pa_nil)))
    (pss_cons (ps_if (pt_val (pe_callB (r := rIsi K) call_isi (by rfl) T.n_isinstance boot_isinstance (pa_cons (pv 0) (pa_cons (pe_bltn (v := .ty "int") (by rfl) T.n_int boot_int rfl) pa_nil)))) (pss_one (ps_ret (pv 1))) pss_nil)
    (pss_cons (ps_for PassesOwn.never rfl (pi_range2 rfl T.n_range (pa_cons pe_int (pa_cons (pe_callB (r := rLenS K) j_len (by rfl) T.n_len PySem.boot_len (pa_cons (pv 0) pa_nil)) pa_nil))) (pg_name (i := 2) sc_u_law_positions.nd rfl (Or.inl rfl)) (pss_one (ps_for PassesOwn.never rfl (pi_list (pe_call G_u_law_positions (hr.mono (by omega)) rfl T.m_u_law_positions T.F_u_law_positions.kp T.b_u_law_positions .nil pass0 (pa_cons (pe_ix (r := rIxT K) ix_tup (pv 0) (pv 2) (fun _ _ => rfl)) pa_nil))) (pg_name (i := 3) sc_u_law_positions.nd rfl (Or.inl rfl)) (pss_one (ps_expr (pe_bm PySem.F.plainAttrs_list PySem.F.slot_list_append PySem.F.type_list_append mt_append (pv 1) (pa_cons (pe_op (r := rCatT K) op_catT (pe_tup (pa_cons (pv 2) pa_nil)) (pv 3)) pa_nil)))))))
    (pss_one (ps_ret (pv 1)))))), ?_⟩
  walk_at "rd"
  refine ⟨by show 0 ≤ sizeLine; decide, ?_⟩
  first | intro e n1 | refine fun e n1 => ?_
  generalize ehn : upd H e _ = H1
  have s1 := J.al_same n1 ehn
  have h1 := J.al_at ehn
  clear ehn
  refine ⟨by show 1 ≤ sizeLine; decide, ?_⟩
  first | intro p n2 | refine fun p n2 => ?_
  generalize ehn : upd H1 p _ = H2
  have s2 := J.al_same n2 ehn
  have h2 := J.al_at ehn
  clear ehn
  have hp0 : PosIn H2 p [[]] := ⟨[e], h2, rfl, fun k a r ea er => by
    have hk : k < 1 := (List.getElem?_eq_some_iff.mp ea).1
    have : k = 0 := by omega
    subst this
    cases ea; cases er
    exact s2 _ _ h1⟩
  have np0 : H p = none := s1.free n2
  cases t with
  | var n =>
    cases (show v = .int n from ht)
    walk_at "ri"
    exact q p H2 (s1.trans s2) np0 hp0
  | app f ts =>
    obtain ⟨a, vs, rfl, ha, hts⟩ := ht
    have hvl := hts.length
    have hz : 1 + Tm.szs ts ≤ 100000 := hz
    have hll := Tm.len_le ts
    have ha2 := s2 _ _ (s1 _ _ ha)
    have hts2 := (hts.tu (tu_same s1)).tu (tu_same s2)
    walk_at "ri"
    refine ⟨1, _, rfl, ⟨by decide, by decide, ?_, ?_⟩, ?_⟩
    · show -(2 ^ 62) ≤ ((vs.length + 1 : Nat) : Int); omega
    · show ((vs.length + 1 : Nat) : Int) < 2 ^ 62; omega
    have en : (((V.str f :: vs).length : Int) - 1).toNat = ts.length := by
      show (((vs.length + 1 : Nat) : Int) - 1).toNat = _
      omega
    rw [en]
    refine for_range (lo := 1) (n := ts.length) (fun i σ' H' => ∃ x y, σ' = [some (.ref a), some (.ref p), x, y] ∧ But p H2 H' ∧ PosIn H' p ([] :: posss 1 (ts.take i))) ?_ ?_ ?_
    · exact ⟨none, none, rfl, But.refl _ _, hp0⟩
    · rintro i σ' H' hi ⟨x, y, rfl, b, hp⟩
      have gt := List.getElem?_eq_getElem hi
      obtain ⟨v1, gv1, hv1⟩ := hts2.get' gt
      have mt : ts[i] ∈ ts := List.getElem_mem hi
      have hst := Tm.sz_arg mt
      have tub : Tu H2 H' := but_tu b (lst_not_tup h2)
      have e1 : (1 : Int) + (i : Int) = ((i + 1 : Nat) : Int) := by omega
      have gt1 : atI (V.str f :: vs) ((1 : Int) + (i : Int)) = some v1 := by rw [e1]; exact atI_nat (j := i + 1) (by rw [List.getElem?_cons_succ]; exact gv1)
      have ha3 := tub _ _ ha2
      walk_at "rd"
      refine ⟨v1, ts[i], rfl, hv1.tu tub, by omega, TmIn.dep_arg hd mt, fun p3 H3 s3 n3 hp3 => ?_⟩
      have hpp := hp.same s3
      have n33 : p3 ≠ p := fun z => by
        obtain ⟨as, e, _⟩ := hp
        rw [z, e] at n3; cases n3
      obtain ⟨as3, g3, l3, f3⟩ := hp3
      refine ⟨_, rfl, ⟨_, SqL.of g3⟩, for_list (K := K) (a := p3) (xs := as3.map V.ref) (fun j σ' H'' => ∃ y, σ' = [some (.ref a), some (.ref p), some (.int (1 + (i : Int))), y] ∧ But p H3 H'' ∧ PosIn H'' p ([] :: posss 1 (ts.take i) ++ ((poss ts[i]).take j).map (fun q => (1 + (i : Int)) :: q))) ?_ ?_ ?_ ?_⟩
      · exact ⟨_, rfl, But.refl _ _, by rw [List.take_zero, List.map_nil, List.append_nil]; exact hpp⟩
      · rintro j σ' H'' hj ⟨y, rfl, b4, hp4⟩
        exact SqL.of (b4 _ _ g3 n33)
      · rintro j y2 σ' H'' hj ⟨y, rfl, b4, hp4⟩
        have hj' : j < as3.length := by
          have := (List.getElem?_eq_some_iff.mp hj).1
          rw [List.length_map] at this; exact this
        have gj := List.getElem?_eq_getElem (l := poss ts[i]) (i := j) (by omega)
        have ej : y2 = .ref as3[j] := by
          rw [List.getElem?_map, List.getElem?_eq_getElem hj'] at hj
          exact (Option.some.inj hj).symm
        subst ej
        have hin := f3 j _ _ (List.getElem?_eq_getElem hj') gj
        have npl : ∀ xs, H3 p ≠ some (.tup xs) := by
          obtain ⟨as, e, _⟩ := hpp
          exact lst_not_tup e
        have tu4 : Tu H3 H'' := but_tu b4 npl
        obtain ⟨as4, g4, l4, f4⟩ := hp4
        walk_at "rd"
        refine ⟨.inl ⟨rfl, _, SqL.of g4⟩, ?_⟩
        walk_at "rd"
        refine ⟨by show 1 ≤ sizeLine; decide, ?_⟩
        first | intro t1 n5 | refine fun t1 n5 => ?_
        generalize ehn : upd H'' t1 _ = H5
        have s5 := J.al_same n5 ehn
        have h5 := J.al_at ehn
        clear ehn
        have hin5 := s5 _ _ (tu4 _ _ hin)
        walk_at "rd"
        have hq := (poss_is _ _ (List.mem_of_getElem? gj)).2
        have hdt := TmIn.dep_arg hd mt
        have lens : as4.length ≤ 100001 := by
          rw [l4, List.length_append, List.length_map, List.length_take, List.length_cons, posss_len]
          have h1 := szs_take ts i
          have h2 := poss_len ts[i]
          have h3 : Tm.szs (ts.take i) + ts[i].sz ≤ Tm.szs ts := by
            have := szs_take ts (i + 1)
            rw [list_take_succ gt, szs_app] at this
            have e : Tm.szs [ts[i]] = ts[i].sz := by show ts[i].sz + 0 = _; omega
            omega
          omega
        have e2 : (poss ts[i]).take (j + 1) = (poss ts[i]).take j ++ [(poss ts[i])[j]] := list_take_succ gj
        have fin : ∀ (b0 : Addr) (H6 : Hp), Same H'' H6 → H6 b0 = some (.tup (((1 + (i : Int)) :: (poss ts[i])[j]).map V.int)) → PosIn (upd H6 p (.lst (as4.map V.ref ++ [.ref b0]))) p ([] :: posss 1 (ts.take i) ++ ((poss ts[i]).take (j + 1)).map (fun q => (1 + (i : Int)) :: q)) := by
          intro b0 H6 s6 h6
          have hp6 := s6 _ _ g4
          rw [e2, List.map_append, ← List.append_assoc]
          refine PosIn.push (as := as4) g4 l4 f4 ((tu_same s6).trans (tu_upd (lst_not_tup hp6))) upd_same ?_
          rw [upd_ne fun z => by rw [z, hp6] at h6; cases h6]
          exact h6
        refine ⟨t1, _, _, _, rfl, rfl, SqT.of h5, SqT.of hin5, List.cons_ne_nil _ _, ?_, fun z => ?_, fun _ => ?_⟩
        · rw [List.length_map]
          show 0 + 1 + _ ≤ _
          have hN : ts[i].dep ≤ 100000 := by have := Tm.dep_le_sz ts[i]; omega
          exact Nat.le_trans (show 0 + 1 + (poss ts[i])[j].length ≤ 100001 by omega) (by decide)
        · have z : (poss ts[i])[j] = [] := List.map_eq_nil_iff.mp z
          refine ⟨p, _, _, rfl, rfl, s5 _ _ g4, by rw [List.length_map]; exact Nat.lt_of_le_of_lt lens (by decide), _, rfl, b4.trans ((but_same s5).trans (but_upd _)), fin t1 H5 s5 ?_⟩
          rw [z]; exact h5
        · first | intro t2 n6 | refine fun t2 n6 => ?_
          generalize ehn : upd H5 t2 _ = H6
          have s6 := J.al_same n6 ehn
          have h6 := J.al_at ehn
          clear ehn
          exact ⟨p, _, _, rfl, rfl, s6 _ _ (s5 _ _ g4), by rw [List.length_map]; exact Nat.lt_of_le_of_lt lens (by decide), _, rfl, b4.trans ((but_same s5).trans ((but_same s6).trans (but_upd _))), fin t2 H6 (s5.trans s6) h6⟩
      · rintro σ' H'' ⟨y, rfl, b4, hp4⟩
        rw [List.length_map, l3, List.take_length] at hp4
        refine ⟨_, _, rfl, b.trans ((but_same s3).trans b4), ?_⟩
        rw [list_take_succ gt, posss_app, List.length_take, Nat.min_eq_left (by omega)]
        show PosIn H'' p ([] :: (posss 1 (ts.take i) ++ ((poss ts[i]).map (fun q => (((1 + i : Nat) : Int)) :: q) ++ [])))
        rw [List.append_nil, show (((1 + i : Nat) : Int)) = 1 + (i : Int) by omega]
        exact hp4
    · rintro σ' H' ⟨x, y, rfl, b, hp⟩
      rw [List.take_length] at hp
      walk_at "rd"
      exact q p H' (b.same (s1.trans s2) np0) np0 hp

theorem all_u_law_positions (T : Tx K mg A) : ∀ N : Nat, FnOk P w K mg base CX0 (N + 1) A.a_u_law_positions A.d_u_law_positions ["term"] (sp_u_law_positions N)
  | 0 => fn_none fun vs H Q E h => by obtain ⟨v, t, _, _, _, hd, _⟩ := h; have := t.dep_pos; omega
  | N + 1 => st_u_law_positions T N (all_u_law_positions T N)
theorem ok_u_law_positions (T : Tx K mg A) : FnOk P w K mg base CX0 61 A.a_u_law_positions A.d_u_law_positions ["term"] (sp_u_law_positions 60) := all_u_law_positions T 60

/-! _law_replace -/
def sp_u_law_replace (N : Nat) : Sp := fun vs H Q _ => ∃ (v w : V) (t u : Tm) (a : Addr) (q : List Int), vs = [v, .ref a, w] ∧ TmIn H t v ∧ TmIn H u w ∧ H a = some (.tup (q.map V.int)) ∧ IsPos q t ∧ q.length < N ∧ t.sz ≤ 100000 ∧ ∀ r H', Same H H' → TmIn H' (rep u q t) r → Q r H'
theorem st_u_law_replace (T : Tx K mg A) (N : Nat) (G_u_law_replace : FnOk P w K mg base CX0 (N + 1) A.a_u_law_replace A.d_u_law_replace ["term", "position", "new"] (sp_u_law_replace N)) : FnOk P w K mg base CX0 (N + 2) A.a_u_law_replace A.d_u_law_replace ["term", "position", "new"] (sp_u_law_replace (N + 1)) := by

  refine T.F_u_law_replace.ok sc_u_law_replace (fun vs H Q E h => ?_) (fun cdv Ar outer s0 H vs Q E hr h => ?_)
  · obtain ⟨v, w, t, u, a, q, rfl, _⟩ := h; rfl
  obtain ⟨v, w, t, u, a, q, rfl, ht, hu', hq, ip, hl, hz, q0⟩ := h
  refine ⟨_, (pss_cons (ps_if (pt_cmpR op_eq (pe_callB (r := rLenS K) j_len (by rfl) T.n_len PySem.boot_len (pa_cons (pv 1) pa_nil)) pe_int (nomark _)) (pss_one (ps_ret (pv 2))) pss_nil)
    (pss_cons (ps_set (i := 3) sc_u_law_replace.nd rfl (Or.inl rfl) (pe_ix (r := rIxT K) ix_tup (pv 1) pe_int (fun _ _ => rfl)))
    (pss_one (ps_ret (pe_op (r := rCatT K) op_catT (pe_op (r := rCatT K) op_catT (pe_slice (r := rSlT K) sl_tup (pv 0) po_none (po_some (pv 3))) (pe_tup (pa_cons (pe_call G_u_law_replace (hr.mono (by omega)) rfl T.m_u_law_replace T.F_u_law_replace.kp T.b_u_law_replace .nil pass0 (pa_cons (pe_ix (r := rIxT K) ix_tup (pv 0) (pv 3) (fun _ _ => rfl)) (pa_cons (pe_slice (r := rSlT K) sl_tup (pv 1) (po_some pe_int) po_none) (pa_cons (pv 2) pa_nil)))) pa_nil))) (pe_slice (r := rSlT K) sl_tup (pv 0) (po_some (pe_op op_add (pv 3) pe_int)) po_none)))))), ?_⟩
  cases q with
  | nil =>
    walk_at "ri"
    exact q0 w H (Same.refl _) hu'
  | cons k q =>
    cases t with
    | var n => exact ip.elim
    | app f ts =>
      obtain ⟨hk1, t, gt, ip⟩ := ip
      obtain ⟨b, vs, rfl, hb, hts⟩ := ht
      obtain ⟨j, rfl⟩ : ∃ j : Nat, k = ((j + 1 : Nat) : Int) := ⟨(k - 1).toNat, by omega⟩
      have ej : (((j + 1 : Nat) : Int) - 1).toNat = j := by omega
      rw [ej] at gt
      have hj : j < ts.length := (List.getElem?_eq_some_iff.mp gt).1
      obtain ⟨v1, gv1, hv1⟩ := hts.get' gt
      have hvl := hts.length
      have hll := Tm.len_le ts
      have hz : 1 + Tm.szs ts ≤ 100000 := hz
      have hst := Tm.sz_arg (List.mem_of_getElem? gt)
      have hq' : H a = some (.tup (.int ((j + 1 : Nat) : Int) :: q.map V.int)) := hq
      walk_at "ri"
      refine ⟨b, _, rfl, SqT.of hb, notLo (k := j + 1) (by rw [List.length_cons]; omega), ?_⟩
      rw [cutLo]
      first | intro p1 n1 | refine fun p1 n1 => ?_
      generalize ehn : upd H p1 _ = H1
      have s1 := J.al_same n1 ehn
      have h1 := J.al_at ehn
      clear ehn
      replace hb := s1 _ _ hb
      have hq1 := s1 _ _ hq'
      walk_at "rd"
      refine ⟨b, _, _, v1, rfl, rfl, SqT.of hb, atI_nat (j := j + 1) (by rw [List.getElem?_cons_succ]; exact gv1), ?_⟩
      walk_at "rd"
      walk_at "sl1"
      first | intro p2 n2 | refine fun p2 n2 => ?_
      generalize ehn : upd H1 p2 _ = H2
      have s2 := J.al_same n2 ehn
      have h2 := J.al_at ehn
      clear ehn
      walk_at "rd"
      have tu2 := tu_same (s1.trans s2)
      refine ⟨v1, w, t, u, p2, q, rfl, hv1.tu tu2, hu'.tu tu2, h2, ip, by rw [List.length_cons] at hl; omega, by omega, fun r H3 s3 hr3 => ?_⟩
      refine ⟨by show 1 ≤ sizeLine; decide, ?_⟩
      first | intro p3 n4 | refine fun p3 n4 => ?_
      generalize ehn : upd H3 p3 _ = H4
      have s4 := J.al_same n4 ehn
      have h4 := J.al_at ehn
      clear ehn
      have tu24 := tu_same (s3.trans s4)
      have h14 := tu24 _ _ (s2 _ _ h1)
      have hb4 := tu24 _ _ (s2 _ _ hb)
      have e1 : (V.str f :: vs).take (j + 1) = .str f :: vs.take j := rfl
      rw [e1] at h14
      refine ⟨p1, p3, _, _, rfl, rfl, SqT.of h14, SqT.of h4, List.cons_ne_nil _ _, ?_, fun z => absurd z (List.cons_ne_nil _ _), fun _ => ?_⟩
      · rw [List.length_cons, List.length_take]
        exact Nat.le_trans (show min j vs.length + 1 + 1 ≤ 100002 by omega) (by decide)
      first | intro p5 n5 | refine fun p5 n5 => ?_
      generalize ehn : upd H4 p5 _ = H5
      have s5 := J.al_same n5 ehn
      have h5 := J.al_at ehn
      clear ehn
      replace hb4 := s5 _ _ hb4
      walk_at "rd"
      have e3 : ((((j + 1 : Nat) : Int)) + 1) = ((j + 2 : Nat) : Int) := by omega
      rw [e3]
      refine ⟨b, _, rfl, SqT.of hb4, notHi (k := j + 2) (by omega) (by rw [List.length_cons]; omega), ?_⟩
      rw [cutHi]
      have e2 : (V.str f :: vs).drop (j + 2) = vs.drop (j + 1) := rfl
      rw [e2]
      first | intro p6 n6 | refine fun p6 n6 => ?_
      generalize ehn : upd H5 p6 _ = H6
      have s6 := J.al_same n6 ehn
      have h6 := J.al_at ehn
      clear ehn
      have tuF : Tu H H4 := tu2.trans tu24
      have h56 := s6 _ _ h5
      have key : ∀ (b0 : Addr) (H7 : Hp), Same H6 H7 → H7 b0 = some (.tup ((.str f :: vs.take j ++ [r]) ++ vs.drop (j + 1))) → Q (.ref b0) H7 := by
        intro b0 H7 s7 h7
        have s47 : Same H4 H7 := s5.trans (s6.trans s7)
        have tu47 := tu_same s47
        refine q0 _ H7 (s1.trans (s2.trans (s3.trans (s4.trans s47)))) ?_
        have er : rep u (((j + 1 : Nat) : Int) :: q) (.app f ts) = .app f (ts.take j ++ [rep u q t] ++ ts.drop (j + 1)) := by
          show Tm.app f (ts.set (((j + 1 : Nat) : Int) - 1).toNat (rep u q (ts.getD (((j + 1 : Nat) : Int) - 1).toNat u))) = _
          rw [ej, List.getD_eq_getElem?_getD, gt, set_cut hj]; rfl
        rw [er]
        refine ⟨b0, vs.take j ++ [r] ++ vs.drop (j + 1), rfl, h7, ?_⟩
        have tu07 := tuF.trans tu47
        exact ((((hts.take j).tu tu07).append (TmsIn.one ((hr3.tu (tu_same s4)).tu tu47)))).append ((hts.drop (j + 1)).tu tu07)
      refine ⟨p5, p6, _, _, rfl, rfl, SqT.of h56, SqT.of h6, List.cons_ne_nil _ _, ?_, fun z => ?_, fun _ => ?_⟩
      · show (V.str f :: vs.take j ++ [r]).length + _ ≤ _
        rw [List.length_append, List.length_cons, List.length_take, List.length_drop]
        exact Nat.le_trans (show min j vs.length + 1 + 1 + (vs.length - (j + 1)) ≤ 200004 by omega) (by decide)
      · refine key p5 H6 (Same.refl _) ?_
        rw [z, List.append_nil]; exact h56
      · first | intro p7 n7 | refine fun p7 n7 => ?_
        generalize ehn : upd H6 p7 _ = H7
        have s7 := J.al_same n7 ehn
        have h7 := J.al_at ehn
        clear ehn
        exact key p7 H7 s7 h7

theorem all_u_law_replace (T : Tx K mg A) : ∀ N : Nat, FnOk P w K mg base CX0 (N + 1) A.a_u_law_replace A.d_u_law_replace ["term", "position", "new"] (sp_u_law_replace N)
  | 0 => fn_none fun vs H Q E h => by obtain ⟨v, w, t, u, a, q, _, _, _, _, _, hl, _⟩ := h; omega
  | N + 1 => st_u_law_replace T N (all_u_law_replace T N)
theorem ok_u_law_replace (T : Tx K mg A) : FnOk P w K mg base CX0 61 A.a_u_law_replace A.d_u_law_replace ["term", "position", "new"] (sp_u_law_replace 60) := all_u_law_replace T 60

/-! _law_short_values -/
def sp_u_law_short_values : Sp := fun vs H Q _ => ∃ (s l o : Addr) (fs : List Str), vs = [.ref s, .ref o] ∧ St H s l ∧ Ops H o fs ∧
  ∀ d kvs tb H', But s H H' → St H' s l → H d = none → H' d = some (.dK kvs) → TbIn H' kvs tb → (∀ x ∈ tb, x.2.wf fs 3 ∧ x.2.sz ≤ 4 ∧ x.2.dep ≤ 2) → (∀ n : Nat, n < 3 → look tb (n : Int) ≠ none) → Q (.ref d) H'
theorem ok_u_law_short_values (T : Tx K mg A) : FnOk P w K mg base CX0 (11) A.a_u_law_short_values A.d_u_law_short_values ["state", "operations"] sp_u_law_short_values := by
  have G_u_law_term := ok_u_law_term (P := P) (w := w) (base := base) T
  refine T.F_u_law_short_values.ok sc_u_law_short_values (fun vs H Q E h => ?_) (fun cdv Ar outer s0 H vs Q E hr h => ?_)
  · obtain ⟨s, l, o, fs, rfl, _⟩ := h; rfl
  obtain ⟨s, l, o, fs, rfl, st, op, q⟩ := h
  refine ⟨_, (pss_cons (ps_set (i := 2) sc_u_law_short_values.nd rfl (Or.inl rfl) pe_dnewK)
    (pss_cons (ps_for PassesOwn.never rfl (pi_range1 rfl T.n_range (pa_cons pe_int pa_nil)) (pg_name (i := 3) sc_u_law_short_values.nd rfl (Or.inl rfl)) (pss_one (ps_dput (hu_of hr) (pv 2) (pv 3) (pe_call G_u_law_term (hr.mono (by omega)) rfl T.m_u_law_term T.F_u_law_term.kp T.b_u_law_term .nil pass0 (pa_cons (pv 0) (pa_cons (pv 1) (pa_cons pe_int (pa_cons pe_int pa_nil))))) rfl)))
    (pss_one (ps_ret (pv 2))))), ?_⟩
  dsimp only [tSeq, tAsg, tC, gName]
  first | intro d n1 | refine fun d n1 => ?_
  generalize ehn : upd H d _ = H1
  have s1 := J.al_same n1 ehn
  have h1 := J.al_at ehn
  clear ehn
  have st1 := st.same s1
  have op1 := op.same s1
  have sd : s ≠ d := (st.free n1).1
  have ld : l ≠ d := (st.free n1).2
  have od : o ≠ d := fun z => by obtain ⟨_, _, as, e0, _⟩ := op; rw [z, n1] at e0; cases e0
  have os := op1.ne st1
  walk_at "rd"
  refine ⟨by decide, by decide, for_range (lo := 0) (n := 3) (fun i σ' H' => ∃ (x : Option V) (kvs : List (Key × V)) (tb : List (Int × Tm)), σ' = [some (.ref s), some (.ref o), some (.ref d), x] ∧
    H' d = some (.dK kvs) ∧ TbIn H' kvs tb ∧ (∀ y ∈ tb, (0 ≤ y.1 ∧ y.1 < (i : Int)) ∧ y.2.wf fs 3 ∧ y.2.sz ≤ 4 ∧ y.2.dep ≤ 2) ∧ (∀ n : Nat, n < i → look tb (n : Int) ≠ none) ∧ tb.length ≤ i ∧ St H' s l ∧ (∀ c ob, H1 c = some ob → c ≠ s → c ≠ d → H' c = some ob)) ?_ ?_ ?_⟩
  · exact ⟨none, [], [], rfl, h1, trivial, (fun y hy => nomatch hy), (fun n hn => absurd hn (Nat.not_lt_zero _)), Nat.le_refl _, st1, fun c ob e _ _ => e⟩
  · rintro i σ' H' hi ⟨x, kvs, tb, rfl, hd, htb, hy, hk, hlen, st', f⟩
    have kl := htb.length
    have tuf : Tu H1 H' := fun c xs e => f c _ e (st1.ne_tup e) fun z => by rw [z, h1] at e; cases e
    have op' : Ops H' o fs := by
      obtain ⟨n1, hl, as, h1, h2, h3⟩ := op1
      exact ⟨n1, hl, as, f _ _ h1 os od, h2, fun k f' a e e' => tuf _ _ (h3 k f' a e e')⟩
    walk_at "rd"
    refine ⟨s, l, o, fs, 3, 1, by omega, rfl, st', op', by decide, by decide, fun wv W H2 b2 st2 hW wW dW zW => ?_⟩
    have zW : W.sz ≤ 4 := by have e : (3 : Nat) ^ (1 + 1) = 9 := rfl; omega
    have dW : W.dep ≤ 2 := dW
    have hd2 := b2 _ _ hd fun z => sd z.symm
    have htb2 := htb.tu (st'.tu b2)
    have e0 : (0 : Int) + (i : Int) = (i : Int) := by omega
    have hnew : look tb (i : Int) = none := look_none fun w hw z => by have := (hy w hw).1; omega
    have hnew' : valV kvs (Sum.inl (i : Int) : Key) = none := by
      have := htb.val (i : Int)
      rw [hnew] at this
      exact this
    walk_at "rd"
    refine ⟨d, _, rfl, DPut.k (k := Sum.inl (0 + (i : Int))) hd2 (Nat.lt_of_le_of_lt (show kvs.length ≤ 100 by omega) (by decide)), ?_⟩
    rw [e0, putK_new _ hnew']
    generalize ehn : upd H2 d _ = H3
    have b3 := J.al_but ehn
    have h3 := J.al_at ehn
    clear ehn
    have tu3 : Tu H2 H3 := fun a xs e => b3 _ _ e fun z => by rw [z, hd2] at e; cases e
    refine ⟨_, _, tb ++ [((i : Int), W)], rfl, h3, (htb2.tu tu3).snoc (hW.tu tu3), fun y hy' => ?_, fun n hn => ?_, by rw [List.length_append]; show tb.length + 1 ≤ i + 1; omega, st2.but b3 sd ld, fun c ob e n1 n2 => b3 c ob (b2 c ob (f c ob e n1 n2) n1) n2⟩
    · rcases List.mem_append.mp hy' with z | z
      · have := hy y z
        exact ⟨by omega, this.2⟩
      · rw [List.mem_singleton.mp z]
        exact ⟨⟨by show (0 : Int) ≤ (i : Int); omega, by show (i : Int) < ((i + 1 : Nat) : Int); omega⟩, wW, zW, dW⟩
    · rw [look_app]
      by_cases z : n < i
      · cases e : look tb (n : Int) with
        | none => exact absurd e (hk n z)
        | some u => exact fun w => nomatch w
      · have e : n = i := by omega
        subst e
        rw [hnew]
        show (if ((n : Int) = (n : Int)) then some W else _) ≠ none
        rw [if_pos rfl]
        exact fun w => nomatch w
  · rintro σ' H' ⟨x, kvs, tb, rfl, hd, htb, hy, hk, hlen, st', f⟩
    walk_at "rd"
    refine q d kvs tb H' (fun c ob e ne => f c ob (s1 _ _ e) ne fun z => by rw [z, n1] at e; cases e) st' n1 hd htb (fun y h => (hy y h).2) hk

/-! _law_reducible -/
def sp_u_law_reducible : Sp := fun vs H Q _ => ∃ (s l o r : Addr) (fs : List Str) (rs : List V) (gs : List (Tm × Tm)), vs = [.ref s, .ref o, .ref r] ∧ St H s l ∧ Ops H o fs ∧ H r = some (.lst rs) ∧ r ≠ s ∧ PrIn H rs gs ∧ rs.length ≤ 10 ∧ (∀ x ∈ gs, x.1.sz ≤ 230 ∧ x.1.dep ≤ 16 ∧ x.1.wf fs 3) ∧
  ∀ v t H', But s H H' → St H' s l → TmIn H' t v → t.wf fs 3 → t.sz ≤ 5000 → t.dep ≤ 51 → Q v H'
theorem ok_u_law_reducible (T : Tx K mg A) : FnOk P w K mg base CX0 (70) A.a_u_law_reducible A.d_u_law_reducible ["state", "operations", "rules"] sp_u_law_reducible := by
  have G_u_law_draw := ok_u_law_draw (P := P) (w := w) (base := base) T
  have G_u_law_positions := ok_u_law_positions (P := P) (w := w) (base := base) T
  have G_u_law_replace := ok_u_law_replace (P := P) (w := w) (base := base) T
  have G_u_law_short_values := ok_u_law_short_values (P := P) (w := w) (base := base) T
  have G_u_law_substitute := ok_u_law_substitute (P := P) (w := w) (base := base) T
  have G_u_law_term := ok_u_law_term (P := P) (w := w) (base := base) T
  refine T.F_u_law_reducible.ok sc_u_law_reducible (fun vs H Q E h => ?_) (fun cdv Ar outer s0 H vs Q E hr h => ?_)
  · obtain ⟨s, l, o, r, fs, rs, gs, rfl, _⟩ := h; rfl
  obtain ⟨s, l, o, r, fs, rs, gs, rfl, st, op, hrl, rns, hg, rl, ok, q⟩ := h
  refine ⟨_, (pss_cons (ps_set (i := 3) sc_u_law_reducible.nd rfl (Or.inl rfl) (pe_call G_u_law_term (hr.mono (by omega)) rfl T.m_u_law_term T.F_u_law_term.kp T.b_u_law_term .nil pass0 (pa_cons (pv 0) (pa_cons (pv 1) (pa_cons pe_int (pa_cons pe_int pa_nil))))))
    (pss_cons (ps_for PassesOwn.never rfl (pi_range1 rfl T.n_range (pa_cons pe_int pa_nil)) (pg_name (i := 4) sc_u_law_reducible.nd rfl (Or.inl rfl)) (pss_one (ps_if (pt_cmpR op_gt (pe_callB (r := rLenS K) j_len (by rfl) T.n_len PySem.boot_len (pa_cons (pv 2) pa_nil)) pe_int (nomark _)) (pss_cons (ps_set (i := 5) sc_u_law_reducible.nd rfl (Or.inl rfl) (pe_ix (r := rIxT K) ix_tup (pe_ix (r := rIxL K) ix_list (pv 2) (pe_call G_u_law_draw (hr.mono (by omega)) rfl T.m_u_law_draw T.F_u_law_draw.kp T.b_u_law_draw .nil pass0 (pa_cons (pv 0) (pa_cons (pe_callB (r := rLenS K) j_len (by rfl) T.n_len PySem.boot_len (pa_cons (pv 2) pa_nil)) pa_nil))) (fun _ _ => rfl)) pe_int (fun _ _ => rfl)))
    (pss_cons (ps_set (i := 6) sc_u_law_reducible.nd rfl (Or.inl rfl) (pe_call G_u_law_substitute (hr.mono (by omega)) rfl T.m_u_law_substitute T.F_u_law_substitute.kp T.b_u_law_substitute .nil pass0 (pa_cons (pv 5) (pa_cons (pe_call G_u_law_short_values (hr.mono (by omega)) rfl T.m_u_law_short_values T.F_u_law_short_values.kp T.b_u_law_short_values .nil pass0 (pa_cons (pv 0) (pa_cons (pv 1) pa_nil))) pa_nil))))
    (pss_cons (ps_set (i := 7) sc_u_law_reducible.nd rfl (Or.inl rfl) (pe_call G_u_law_positions (hr.mono (by omega)) rfl T.m_u_law_positions T.F_u_law_positions.kp T.b_u_law_positions .nil pass0 (pa_cons (pv 3) pa_nil)))
    (pss_one (ps_set (i := 3) sc_u_law_reducible.nd rfl (Or.inl rfl) (pe_call G_u_law_replace (hr.mono (by omega)) rfl T.m_u_law_replace T.F_u_law_replace.kp T.b_u_law_replace .nil pass0 (pa_cons (pv 3) (pa_cons (pe_ix (r := rIxL K) ix_list (pv 7) (pe_call G_u_law_draw (hr.mono (by omega)) rfl T.m_u_law_draw T.F_u_law_draw.kp T.b_u_law_draw .nil pass0 (pa_cons (pv 0) (pa_cons (pe_callB (r := rLenS K) j_len (by rfl) T.n_len PySem.boot_len (pa_cons (pv 7) pa_nil)) pa_nil))) (fun _ _ => rfl)) (pa_cons (pv 6) pa_nil))))))))) pss_nil)))
    (pss_one (ps_ret (pv 3))))), ?_⟩
  walk_at "rd"
  refine ⟨s, l, o, fs, 3, 2, by omega, rfl, st, op, by decide, by decide, fun v t H1 b1 st1 ht wt dt zt => ?_⟩
  have zt : t.sz ≤ 13 := by have e : (3 : Nat) ^ (2 + 1) = 27 := rfl; omega
  have gl := hg.length
  have dt : t.dep ≤ 3 := dt
  walk_at "rd"
  refine ⟨by decide, by decide, for_range (lo := 0) (n := 3) (fun i σ' H' => ∃ (v' : V) (t' : Tm) (x4 x5 x6 x7 : Option V), σ' = [some (.ref s), some (.ref o), some (.ref r), some v', x4, x5, x6, x7] ∧ But s H H' ∧ St H' s l ∧ TmIn H' t' v' ∧ t'.wf fs 3 ∧ t'.sz ≤ 13 + 1600 * i ∧ t'.dep ≤ 3 + 16 * i) ?_ ?_ ?_⟩
  · exact ⟨v, t, none, none, none, none, rfl, b1, st1, ht, wt, by omega, by omega⟩
  · rintro i σ' H' hi ⟨v', t', x4, x5, x6, x7, rfl, b, st', ht', wt', zt', dt'⟩
    have op' := op.but st b
    have hr' := b _ _ hrl rns
    have tu' := st.tu b
    have hg' := hg.tu tu'
    dsimp only [gName]
    refine at_state (t := tIfS _ _ _) (σ' := [some (.ref s), some (.ref o), some (.ref r), some v', some (.int (0 + (i : Int))), x5, x6, x7]) rfl ?_
    dsimp only [tIfS]
    refine tt_at (t := tTest _) (decide (0 < (rs.length : Int))) (fun Qf hq => ?_) ?_
    · walk_at "rd"
      exact hq
    by_cases c : 0 < (rs.length : Int)
    · rw [decide_eq_true c]
      refine (if_pos rfl : ite _ _ _ = _).mpr ?_
      walk_at "rd"
      refine ⟨s, l, (rs.length : Int), rfl, st', by omega, by omega, fun k H2 k0 k1 b2 st2 => ?_⟩
      obtain ⟨k, rfl⟩ := Int.eq_ofNat_of_zero_le k0
      have hr2 := b2 _ _ hr' rns
      have hk : k < rs.length := by omega
      have gk := List.getElem?_eq_getElem hk
      generalize rs[k] = rv at gk
      obtain ⟨x, ra, u, v2, gx, rfl, hra, hu, hv2⟩ := (hg'.tu (st'.tu b2)).get gk
      obtain ⟨z1, z2, z3⟩ := ok x (List.mem_of_getElem? gx)
      walk_at "rd"
      refine ⟨r, _, _, _, rfl, rfl, SqL.of hr2, atI_nat gk, ?_⟩
      walk_at "rd"
      have op2 := op'.but st' b2
      refine ⟨s, l, o, fs, rfl, st2, op2, fun d kvs tb H3 b3 st3 nd hd htb hv hall => ?_⟩
      walk_at "rd"
      have hu3 := hu.tu (st2.tu b3)
      refine ⟨u, x.1, d, look tb, rfl, hu3, TbIn.sb hd htb, by omega, by omega, fun fv H4 s4 hf => ?_⟩
      have vb : ∀ n, ((look tb n).getD (.var n)).sz ≤ 4 ∧ ((look tb n).getD (.var n)).dep ≤ 1 + 1 := fun n => by
        cases e : look tb n with
        | none => exact ⟨by show 1 ≤ 4; omega, by show 1 ≤ 2; omega⟩
        | some W => have := hv _ (look_mem e); exact this.2
      have sb := sub_szM (look tb) 4 1 (by decide) x.1 fun n _ => vb n
      have sw := sub_wf (C := 3) (look tb) x.1 z3 fun n hn => by
        cases e : look tb n with
        | none => exact occ_wf x.1 z3 n hn
        | some W => have := hv _ (look_mem e); exact this.1
      walk_at "rd"
      have st4 := st3.same s4
      have tu14 := ((st'.tu b2).trans (st2.tu b3)).trans (tu_same s4)
      have tz := t'.sz_pos
      refine ⟨v', t', rfl, ht'.tu tu14, by omega, by omega, fun pl H5 s5 n5 h5 => ?_⟩
      obtain ⟨ps, hp, hl, hgp⟩ := h5
      have h5 : PosIn H5 pl (poss t') := ⟨ps, hp, hl, hgp⟩
      have plen := poss_len t'
      have st5 := st4.same s5
      have pls : pl ≠ s := (st4.free n5).1.symm
      have ld : (ps.map V.ref).length = t'.sz := by rw [List.length_map, hl, plen]
      dsimp only [gName]
      refine at_state (t := tAsg _ _) (σ' := [some (.ref s), some (.ref o), some (.ref r), some v', some (.int (0 + (i : Int))), some u, some fv, some (.ref pl)]) rfl ?_
      walk_at "rd"
      rw [ld]
      refine ⟨s, l, (t'.sz : Int), rfl, st5, by omega, by omega, fun k2 H6 k20 k21 b6 st6 => ?_⟩
      obtain ⟨k2, rfl⟩ := Int.eq_ofNat_of_zero_le k20
      have hk2 : k2 < (poss t').length := by omega
      obtain ⟨xs, pa, q2, g1, g2, g3, g4, g5⟩ := h5.get hk2
      refine ⟨pl, xs, _, _, rfl, rfl, SqL.of (b6 _ _ g1 pls), atI_nat g3, ?_⟩
      obtain ⟨ip, il⟩ := poss_is t' q2 (List.mem_of_getElem? g4)
      obtain ⟨c0, hc0⟩ := (isPos_at q2 t').mp ip
      have tu6 := st5.tu b6
      have g6 := tu6 _ _ g5
      have rz := rep_sz (sub (look tb) x.1) q2 t' c0 hc0
      have rd := (rep_dep (sub (look tb) x.1) q2 t' ip).1
      walk_at "rd"
      refine ⟨v', fv, t', sub (look tb) x.1, pa, q2, rfl, (ht'.tu tu14).tu ((tu_same s5).trans tu6), hf.tu ((tu_same s5).trans tu6), g6, ip, by omega, by omega, fun r2 H7 s7 hr7 => ?_⟩
      walk_at "rd"
      refine ⟨r2, _, _, _, _, _, rfl, b.trans (b2.trans (b3.trans ((but_same (s4.trans s5)).trans (b6.trans (but_same s7))))), st6.same s7, hr7, rep_wf sw q2 t' wt' ip, by omega, by omega⟩
    · rw [decide_eq_false c]
      refine (if_neg Bool.false_ne_true : ite _ _ _ = _).mpr ?_
      walk_at "rd"
      exact ⟨v', t', _, _, _, _, rfl, b, st', ht', wt', by omega, by omega⟩
  · rintro σ' H' ⟨v', t', x4, x5, x6, x7, rfl, b, st', ht', wt', zt', dt'⟩
    walk_at "rd"
    exact q v' t' H' b st' ht' wt' (by omega) (by omega)

/-! _law_spoilt -/
def sp_u_law_spoilt : Sp := fun vs H Q _ => ∃ (s l o : Addr) (fs : List Str) (B C : Int) (v : V) (t : Tm), vs = [.ref s, .ref o, .int B, v] ∧ St H s l ∧ Ops H o fs ∧ 0 ≤ B ∧ B ≤ C ∧ B ≤ 1000 ∧ TmIn H t v ∧ t.wf fs C ∧ t.sz ≤ 9000 ∧ t.dep ≤ 50 ∧
  ∀ r u H', But s H H' → St H' s l → TmIn H' u r → u.wf fs C → u.sz ≤ t.sz + 4 → u.dep ≤ t.dep + 2 → Q r H'
theorem ok_u_law_spoilt (T : Tx K mg A) : FnOk P w K mg base CX0 (62) A.a_u_law_spoilt A.d_u_law_spoilt ["state", "operations", "count", "term"] sp_u_law_spoilt := by
  have G_u_law_draw := ok_u_law_draw (P := P) (w := w) (base := base) T
  have G_u_law_positions := ok_u_law_positions (P := P) (w := w) (base := base) T
  have G_u_law_replace := ok_u_law_replace (P := P) (w := w) (base := base) T
  have G_u_law_term := ok_u_law_term (P := P) (w := w) (base := base) T
  refine T.F_u_law_spoilt.ok sc_u_law_spoilt (fun vs H Q E h => ?_) (fun cdv Ar outer s0 H vs Q E hr h => ?_)
  · obtain ⟨s, l, o, fs, B, C, v, t, rfl, _⟩ := h; rfl
  obtain ⟨s, l, o, fs, B, C, v, t, rfl, st, op, B0, BC, B1, ht, wt, zt, dt, q0⟩ := h
  refine ⟨_, (pss_cons (ps_set (i := 4) sc_u_law_spoilt.nd rfl (Or.inl rfl) (pe_call G_u_law_positions (hr.mono (by omega)) rfl T.m_u_law_positions T.F_u_law_positions.kp T.b_u_law_positions .nil pass0 (pa_cons (pv 3) pa_nil)))
    (pss_cons (ps_set (i := 5) sc_u_law_spoilt.nd rfl (Or.inl rfl) (pe_ix (r := rIxL K) ix_list (pv 4) (pe_call G_u_law_draw (hr.mono (by omega)) rfl T.m_u_law_draw T.F_u_law_draw.kp T.b_u_law_draw .nil pass0 (pa_cons (pv 0) (pa_cons (pe_callB (r := rLenS K) j_len (by rfl) T.n_len PySem.boot_len (pa_cons (pv 4) pa_nil)) pa_nil))) (fun _ _ => rfl)))
    (pss_one (ps_ret (pe_call G_u_law_replace (hr.mono (by omega)) rfl T.m_u_law_replace T.F_u_law_replace.kp T.b_u_law_replace .nil pass0 (pa_cons (pv 3) (pa_cons (pv 5) (pa_cons (pe_call G_u_law_term (hr.mono (by omega)) rfl T.m_u_law_term T.F_u_law_term.kp T.b_u_law_term .nil pass0 (pa_cons (pv 0) (pa_cons (pv 1) (pa_cons (pv 2) (pa_cons pe_int pa_nil))))) pa_nil)))))))), ?_⟩
  have tz := t.sz_pos
  walk_at "rd"
  refine ⟨v, t, rfl, ht, by omega, by omega, fun pl H1 s1 n1 h1 => ?_⟩
  obtain ⟨ps, hp, hl, hg⟩ := h1
  have h1 : PosIn H1 pl (poss t) := ⟨ps, hp, hl, hg⟩
  have plen := poss_len t
  have st1 := st.same s1
  have op1 := op.same s1
  have pls : pl ≠ s := (st.free n1).1.symm
  iterate 3 refine ⟨_, rfl, ?_⟩
  refine ⟨pl, _, rfl, .inl (SqL.of hp), ?_⟩
  rw [List.length_map, hl, plen]
  walk_at "rd"
  refine ⟨s, l, (t.sz : Int), rfl, st1, by omega, by omega, fun k H2 k0 k1 b2 st2 => ?_⟩
  have tu12 := st1.tu b2
  have op2 := op1.but st1 b2
  obtain ⟨k, rfl⟩ := Int.eq_ofNat_of_zero_le k0
  have hk : k < (poss t).length := by omega
  obtain ⟨xs, pa, q, g1, g2, g3, g4, g5⟩ := h1.get hk
  refine ⟨pl, xs, _, _, rfl, rfl, SqL.of (b2 _ _ g1 pls), atI_nat g3, ?_⟩
  obtain ⟨ip, il⟩ := poss_is t q (List.mem_of_getElem? g4)
  obtain ⟨c0, hc0⟩ := (isPos_at q t).mp ip
  have g6 := tu12 _ _ g5
  have ht2 := ht.tu ((tu_same s1).trans tu12)
  have b02 : But s H H2 := (but_same s1).trans b2
  walk_at "rd"
  refine ⟨s, l, o, fs, B, 1, by omega, rfl, st2, op2, B0, by omega, fun wv W H3 b3 st3 hW wW dW zW => ?_⟩
  have zW : W.sz ≤ 4 := by have e : (3 : Nat) ^ (1 + 1) = 9 := rfl; omega
  have dW : W.dep ≤ 2 := dW
  have tu3 := st2.tu b3
  have rz := rep_sz W q t c0 hc0
  have rd := (rep_dep W q t ip).1
  refine ⟨v, wv, t, W, pa, q, rfl, ht2.tu tu3, hW, tu3 _ _ g6, ip, by omega, by omega, fun r H4 s4 hr => ?_⟩
  exact q0 r _ H4 (b02.trans (b3.trans (but_same s4))) (st3.same s4) hr (rep_wf (wW.mono BC) q t wt ip) (by omega) (by omega)

/-! _law_fits -/
theorem gens_iff : ∀ (ps us : List Tm), ps.length = us.length → (gens ps us = true ↔ ∀ (i : Nat) p u, ps[i]? = some p → us[i]? = some u → gen p u = true)
  | [], [], _ => ⟨fun _ i p u h => by simp at h, fun _ => rfl⟩
  | [], _ :: _, h => by cases h
  | _ :: _, [], h => by cases h
  | a :: ps, b :: us, h => by
    show (gen a b && gens ps us) = true ↔ _
    rw [Bool.and_eq_true, gens_iff ps us (Nat.succ.inj h)]
    refine ⟨fun ⟨x, y⟩ i p u hp hu => ?_, fun x => ⟨x 0 a b rfl rfl, fun i p u hp hu => x (i + 1) p u hp hu⟩⟩
    cases i with
    | zero => cases hp; cases hu; exact x
    | succ i => exact y i p u hp hu
theorem gen_app (f g : Str) (ps us : List Tm) : gen (.app f ps) (.app g us) = (decide (f = g) && decide (ps.length = us.length) && gens ps us) := rfl
def sp_u_law_fits (N : Nat) : Sp := fun vs H Q _ => ∃ (v w : V) (p t : Tm), vs = [v, w] ∧ TmIn H p v ∧ TmIn H t w ∧ p.sz ≤ 10000 ∧ t.sz ≤ 10000 ∧ p.dep ≤ N ∧ ∀ H', Same H H' → Q (.bl (gen p t)) H'
theorem st_u_law_fits (T : Tx K mg A) (N : Nat) (G_u_law_fits : FnOk P w K mg base CX0 (N + 1) A.a_u_law_fits A.d_u_law_fits ["left", "term"] (sp_u_law_fits N)) : FnOk P w K mg base CX0 (N + 2) A.a_u_law_fits A.d_u_law_fits ["left", "term"] (sp_u_law_fits (N + 1)) := by

  refine T.F_u_law_fits.ok sc_u_law_fits (fun vs H Q E h => ?_) (fun cdv Ar outer s0 H vs Q E hr h => ?_)
  · obtain ⟨v, w, p, t, rfl, _⟩ := h; rfl
  obtain ⟨v, w, p, t, rfl, hp, ht, zp, zt, dp, q⟩ := h
  refine ⟨_, (pss_cons (ps_if (pt_val (pe_callB (r := rIsi K) call_isi (by rfl) T.n_isinstance boot_isinstance (pa_cons (pv 0) (pa_cons (pe_bltn (v := .ty "int") (by rfl) T.n_int boot_int rfl) pa_nil)))) (pss_one (ps_ret pe_bl)) pss_nil)
    (pss_cons (ps_if (PW.pt (pw_or (pt_val (pe_callB (r := rIsi K) call_isi (by rfl) T.n_isinstance boot_isinstance (pa_cons (pv 1) (pa_cons (pe_bltn (v := .ty "int") (by rfl) T.n_int boot_int rfl) pa_nil)))) (pw_or (pt_cmpR op_ne (pe_ix (r := rIxT K) ix_tup (pv 0) pe_int (fun _ _ => rfl)) (pe_ix (r := rIxT K) ix_tup (pv 1) pe_int (fun _ _ => rfl)) (nomark _)) (pw_or1 (pt_cmpR op_ne (pe_callB (r := rLenS K) j_len (by rfl) T.n_len PySem.boot_len (pa_cons (pv 0) pa_nil)) (pe_callB (r := rLenS K) j_len (by rfl) T.n_len PySem.boot_len (pa_cons (pv 1) pa_nil)) (nomark _)))))) (pss_one (ps_ret pe_bl)) pss_nil)
    (pss_cons (ps_for PassesOwn.never rfl (pi_range2 rfl T.n_range (pa_cons pe_int (pa_cons (pe_callB (r := rLenS K) j_len (by rfl) T.n_len PySem.boot_len (pa_cons (pv 0) pa_nil)) pa_nil))) (pg_name (i := 2) sc_u_law_fits.nd rfl (Or.inl rfl)) (pss_one (ps_if (pt_not (pt_truth (pe_call G_u_law_fits (hr.mono (by omega)) rfl T.m_u_law_fits T.F_u_law_fits.kp T.b_u_law_fits .nil pass0 (pa_cons (pe_ix (r := rIxT K) ix_tup (pv 0) (pv 2) (fun _ _ => rfl)) (pa_cons (pe_ix (r := rIxT K) ix_tup (pv 1) (pv 2) (fun _ _ => rfl)) pa_nil))) (by intro _; rfl))) (pss_one (ps_ret pe_bl)) pss_nil)))
    (pss_one (ps_ret pe_bl))))), ?_⟩
  cases p with
  | var n =>
    cases (show v = .int n from hp)
    walk_at "ri"
    have e : gen (.var n) t = true := by cases t <;> rfl
    rw [e] at q
    refine (if_pos rfl : ite _ _ _ = _).mpr ?_
    walk_at "rd"
    exact q _ (Same.refl _)
  | app f ps =>
    obtain ⟨pa, pvs, rfl, hpa, hps⟩ := hp
    have psl := hps.length
    refine seq_join (t := tIfS _ _ _) (fun σ' H' => σ' = [some (.ref pa), some w, none] ∧ H' = H) ?_ (fun Nx cont => ?_)
    rotate_left
    · walk_at "ri"
      refine (if_neg Bool.false_ne_true : ite _ _ _ = _).mpr ?_
      exact cont _ _ ⟨rfl, rfl⟩
    rintro σ1 H1 ⟨rfl, rfl⟩
    dsimp only [tSeq, tIfS]
    cases t with
    | var m =>
      cases (show w = .int m from ht)
      refine tt_at (t := tOr _ _) true (fun Qf hq => ?_) ?_
      · walk_at "ri"
        exact hq
      refine (if_pos rfl : ite _ _ _ = _).mpr ?_
      walk_at "rd"
      exact q _ (Same.refl _)
    | app g us =>
      obtain ⟨ta, uvs, rfl, hta, hus⟩ := ht
      have usl := hus.length
      refine tt_at (t := tOr _ _) (!(decide (f = g) && decide (ps.length = us.length))) (fun Qf hq => ?_) ?_
      · dsimp only [tOr]
        refine tt_at (t := tB _) false (fun Qf2 hq2 => ?_) ?_
        · walk_at "ri"
          exact hq2
        refine (if_neg Bool.false_ne_true : ite _ _ _ = _).mpr ?_
        refine tt_at (t := tTest _) (!decide (f = g)) (fun Qf2 hq2 => ?_) ?_
        · walk_at "rd"
          have e : (decide (V.str f = V.str g)) = decide (f = g) := by
            by_cases z : f = g
            · rw [z, decide_eq_true rfl, decide_eq_true rfl]
            · rw [decide_eq_false z, decide_eq_false (fun w => z (by injection w))]
          rw [e]
          exact hq2
        by_cases z : f = g
        · rw [decide_eq_true z] at hq ⊢
          refine (if_neg Bool.false_ne_true : ite _ _ _ = _).mpr ?_
          walk_at "rd"
          have e : (decide (V.int ((V.str f :: pvs).length : Nat) = V.int ((V.str g :: uvs).length : Nat))) = decide (ps.length = us.length) := by
            rw [List.length_cons, List.length_cons, psl, usl]
            by_cases z : ps.length = us.length
            · rw [z, decide_eq_true rfl, decide_eq_true rfl]
            · rw [decide_eq_false z, decide_eq_false (fun w => z (by injection w with w; omega))]
          rw [e]
          exact hq
        · rw [decide_eq_false z] at hq ⊢
          refine (if_pos rfl : ite _ _ _ = _).mpr ?_
          exact hq
      by_cases c : (decide (f = g) && decide (ps.length = us.length)) = true
      · rw [c]
        have ge := gen_app f g ps us
        rw [c, Bool.true_and] at ge
        rw [Bool.and_eq_true] at c
        have le := of_decide_eq_true c.2
        refine (if_neg Bool.false_ne_true : ite _ _ _ = _).mpr ?_
        walk_at "rd"
        have hl := Tm.len_le ps
        have zpa : 1 + Tm.szs ps ≤ 10000 := zp
        have zta : 1 + Tm.szs us ≤ 10000 := zt
        have dpa : 1 + Tm.deps ps ≤ N + 1 := dp
        have psl2 : (((V.str f :: pvs).length : Nat) : Int) = 1 + (ps.length : Int) := by rw [List.length_cons, psl]; omega
        rw [psl2]
        walk_at "rd"
        refine ⟨_, _, rfl, ⟨by decide, by decide, by omega, by omega⟩, ?_⟩
        have en : ((1 + (ps.length : Int)) - 1).toNat = ps.length := by omega
        rw [en]
        refine for_range (lo := 1) (n := ps.length) (fun i σ' H' => ∃ x, σ' = [some (.ref pa), some (.ref ta), x] ∧ Same H1 H' ∧ ∀ (j : Nat) p u, j < i → ps[j]? = some p → us[j]? = some u → gen p u = true) ?_ ?_ ?_
        · exact ⟨none, rfl, Same.refl _, fun j p u h => absurd h (Nat.not_lt_zero _)⟩
        · rintro i σ' H' hi ⟨x, rfl, k, ih⟩
          have gp := List.getElem?_eq_getElem hi
          have gt := List.getElem?_eq_getElem (l := us) (i := i) (by omega)
          have mp : ps[i] ∈ ps := List.getElem_mem hi
          have mt : us[i] ∈ us := List.getElem_mem (by omega)
          generalize ps[i] = p1 at gp mp
          generalize us[i] = t1 at gt mt
          obtain ⟨v1, gv1, hv1⟩ := hps.get' gp
          obtain ⟨v2, gv2, hv2⟩ := hus.get' gt
          have z1 := Tm.sz_arg mp
          have z2 := Tm.sz_arg mt
          have d1 := Tm.dep_of_mem mp
          have e1 : (1 : Int) + (i : Int) = ((i + 1 : Nat) : Int) := by omega
          walk_at "rd"
          refine ⟨pa, _, _, v1, rfl, rfl, SqT.of (k _ _ hpa), by rw [e1]; exact atI_nat gv1, ?_⟩
          walk_at "rd"
          refine ⟨ta, _, _, v2, rfl, rfl, SqT.of (k _ _ hta), by rw [e1]; exact atI_nat gv2, ?_⟩
          walk_at "rd"
          refine ⟨v1, v2, p1, t1, rfl, hv1.tu (tu_same k), hv2.tu (tu_same k), by omega, by omega, by omega, fun H2 s2 => ?_⟩
          refine ⟨_, rfl, ?_⟩
          cases e : gen p1 t1 with
          | true =>
            walk_at "rd"
            refine ⟨k.trans s2, fun j p u hj hp hu => ?_⟩
            by_cases c : j < i
            · exact ih j p u c hp hu
            · have : j = i := by omega
              subst this
              rw [gp] at hp; rw [gt] at hu
              cases hp; cases hu
              exact e
          | false =>
            walk_at "rd"
            have : gens ps us = false := by
              cases z : gens ps us with
              | false => rfl
              | true =>
                have := (gens_iff ps us le).mp z i p1 t1 gp gt
                rw [e] at this; cases this
            rw [ge, this] at q
            exact q _ (k.trans s2)
        · rintro σ' H' ⟨x, rfl, k, ih⟩
          walk_at "rd"
          have : gens ps us = true := (gens_iff ps us le).mpr fun i p u hp hu => ih i p u (List.getElem?_eq_some_iff.mp hp).1 hp hu
          rw [ge, this] at q
          exact q _ k
      · have c := (Bool.not_eq_true _).mp c
        have ge := gen_app f g ps us
        rw [c, Bool.false_and] at ge
        rw [c]
        rw [ge] at q
        refine (if_pos rfl : ite _ _ _ = _).mpr ?_
        walk_at "rd"
        exact q _ (Same.refl _)

theorem all_u_law_fits (T : Tx K mg A) : ∀ N : Nat, FnOk P w K mg base CX0 (N + 1) A.a_u_law_fits A.d_u_law_fits ["left", "term"] (sp_u_law_fits N)
  | 0 => fn_none fun vs H Q E h => by obtain ⟨v, w, p, t, _, _, _, _, _, hd, _⟩ := h; have := p.dep_pos; omega
  | N + 1 => st_u_law_fits T N (all_u_law_fits T N)
theorem ok_u_law_fits (T : Tx K mg A) : FnOk P w K mg base CX0 61 A.a_u_law_fits A.d_u_law_fits ["left", "term"] (sp_u_law_fits 60) := all_u_law_fits T 60

/-! _law_is_integer -/
def sp_u_law_is_integer : Sp := fun vs H Q _ => ∃ n : Int, vs = [.int n] ∧ Q (.bl true) H
theorem ok_u_law_is_integer (T : Tx K mg A) : FnOk P w K mg base CX0 (1) A.a_u_law_is_integer A.d_u_law_is_integer ["actual"] sp_u_law_is_integer := by

  refine T.F_u_law_is_integer.ok sc_u_law_is_integer (fun vs H Q E h => ?_) (fun cdv Ar outer s0 H vs Q E hr h => ?_)
  · obtain ⟨n, rfl, _⟩ := h; rfl
  obtain ⟨n, rfl, q⟩ := h
  refine ⟨_, (pss_one (ps_ret (pe_and (pe_callB (r := rIsi K) call_isi (by rfl) T.n_isinstance boot_isinstance (pa_cons (pv 0) (pa_cons (pe_bltn (v := .ty "int") (by rfl) T.n_int boot_int rfl) pa_nil))) (pe_one (pe_not (pe_callB (r := rIsi K) call_isi (by rfl) T.n_isinstance boot_isinstance (pa_cons (pv 0) (pa_cons (pe_bltn (v := .ty "bool") (by rfl) T.n_bool boot_bool rfl) pa_nil)))))))), ?_⟩
  walk_at "ri"
  exact q

/-! law -/
def RkL (fs : List Str) (i : Nat) (x : Tm × Tm) : Prop := x.1.wf fs 2 ∧ x.1.sz ≤ 200 + 4 * i ∧ x.2.sz ≤ 200 ∧ x.1.dep ≤ 4 + 2 * i ∧ x.2.dep ≤ 6 ∧ isRule x.1 x.2 = true
def Bp (fs : List Str) (i : Nat) (H : Hp) (p : Addr) : Prop := ∃ t r u v, H p = some (.tup [u, v]) ∧ TmIn H t u ∧ TmIn H r v ∧ RkL fs i (t, r)
theorem Bp.tu {fs : List Str} {i : Nat} {H H' : Hp} {p : Addr} (h : Bp fs i H p) (t : Tu H H') : Bp fs i H' p := by
  obtain ⟨x, r, u, v, h1, h2, h3, h4⟩ := h
  exact ⟨x, r, u, v, t _ _ h1, h2.tu t, h3.tu t, h4⟩
theorem RkL.up {fs : List Str} {i : Nat} {x : Tm × Tm} (h : RkL fs i x) : RkL fs (i + 1) x := by
  obtain ⟨h1, h2, h3, h4, h5, h6⟩ := h
  exact ⟨h1, by omega, h3, by omega, h5, h6⟩
theorem iLay : ∀ l : List Int, PyData.canLayAll0 (l.map PyData.int) = true ∧ PyData.depthAll (l.map PyData.int) = 0
  | [] => ⟨rfl, rfl⟩
  | n :: l => by
    obtain ⟨a, b⟩ := iLay l
    exact ⟨by show (true && PyData.canLayAll0 (l.map PyData.int)) = true; rw [a]; rfl, by show max 0 (PyData.depthAll (l.map PyData.int)) = 0; rw [b]; rfl⟩
theorem iLay2 (l : List Int) : (PyData.list (l.map PyData.int)).canLay0 = true := (iLay l).1
theorem iShaped (l : List Int) : SeqAt.shaped (.list (l.map PyData.int)) = true := by
  obtain ⟨a, b⟩ := iLay l
  unfold SeqAt.shaped
  have h1 : (PyData.list (l.map PyData.int)).canLay0 = true := a
  have h2 : (PyData.list (l.map PyData.int)).depth = 1 := congrArg (· + 1) b
  rw [h1, h2]; rfl
theorem noFalse : ∀ n : Nat, (List.replicate n (V.bl true)).all flatV = true ∧ inV (V.bl false) (List.replicate n (V.bl true)) = false
  | 0 => ⟨rfl, rfl⟩
  | n + 1 => by
    obtain ⟨a, b⟩ := noFalse n
    rw [List.replicate_succ]
    exact ⟨by rw [List.all_cons, a]; rfl, by unfold inV at b ⊢; rw [List.any_cons, b]; rfl⟩
def sp_law (K : PySem.W.Frag) : Sp := fun vs H Q _ => ∃ (a : Addr) (ns : List Int), vs = [.ref a] ∧ SqL K H a (ns.map V.int) ∧ ns.length ≤ 63 ∧ ∀ H', Q (.bl true) H'
set_option maxHeartbeats 1000000 in
theorem ok_law (T : Tx K mg A) : FnOk P w K mg base CX0 80 A.a_law A.d_law ["script"] (sp_law K) := by
  have G_RuleIndex___init := ok_RuleIndex___init (P := P) (w := w) (base := base) T
  have G_RuleIndex_candidates := ok_RuleIndex_candidates (P := P) (w := w) (base := base) T
  have G_u_law_draw := ok_u_law_draw (P := P) (w := w) (base := base) T
  have G_u_law_fits := ok_u_law_fits (P := P) (w := w) (base := base) T
  have G_u_law_is_integer := ok_u_law_is_integer (P := P) (w := w) (base := base) T
  have G_u_law_operations := ok_u_law_operations (P := P) (w := w) (base := base) T
  have G_u_law_reducible := ok_u_law_reducible (P := P) (w := w) (base := base) T
  have G_u_law_refused := ok_u_law_refused (P := P) (w := w) (base := base) T
  have G_u_law_rule := ok_u_law_rule (P := P) (w := w) (base := base) T
  have G_u_law_short_values := ok_u_law_short_values (P := P) (w := w) (base := base) T
  have G_u_law_spoilt := ok_u_law_spoilt (P := P) (w := w) (base := base) T
  have G_u_law_state := ok_u_law_state (P := P) (w := w) (base := base) T
  have G_u_law_substitute := ok_u_law_substitute (P := P) (w := w) (base := base) T
  refine T.F_law.ok sc_law (fun vs H Q E h => ?_) (fun cdv Ar outer s0 H vs Q E hr h => ?_)
  · obtain ⟨a, ns, rfl, _⟩ := h; rfl
  obtain ⟨a, ns, rfl, hS, h63, q⟩ := h
  refine ⟨_, (pss_cons (ps_set (i := 1) sc_law.nd rfl (Or.inl rfl) (pe_call G_u_law_state (hr.mono (by omega)) rfl T.m_u_law_state T.F_u_law_state.kp T.b_u_law_state .nil pass0 (pa_cons (pv 0) pa_nil)))
    (pss_cons (ps_set (i := 2) sc_law.nd rfl (Or.inl rfl) (pe_call G_u_law_operations (hr.mono (by omega)) rfl T.m_u_law_operations T.F_u_law_operations.kp T.b_u_law_operations .nil pass0 (pa_cons (pv 1) pa_nil)))
    (pss_cons (ps_set (i := 3) sc_law.nd rfl (Or.inr rfl) (pe_lst pa_nil))
    (pss_cons (ps_for PassesOwn.never rfl (pi_range1 rfl T.n_range (pa_cons (pe_call G_u_law_draw (hr.mono (by omega)) rfl T.m_u_law_draw T.F_u_law_draw.kp T.b_u_law_draw .nil pass0 (pa_cons (pv 1) (pa_cons pe_int pa_nil))) pa_nil)) (pg_name (i := 4) sc_law.nd rfl (Or.inl rfl)) (pss_cons (ps_set (i := 5) sc_law.nd rfl (Or.inl rfl) (pe_call G_u_law_draw (hr.mono (by omega)) rfl T.m_u_law_draw T.F_u_law_draw.kp T.b_u_law_draw .nil pass0 (pa_cons (pv 1) (pa_cons pe_int pa_nil))))
    (pss_cons (ps_set (i := 6) sc_law.nd rfl (Or.inl rfl) (pe_call G_u_law_rule (hr.mono (by omega)) rfl T.m_u_law_rule T.F_u_law_rule.kp T.b_u_law_rule .nil pass0 (pa_cons (pv 1) (pa_cons (pv 2) (pa_cons pe_int (pa_cons pe_int pa_nil))))))
    (pss_cons (ps_if (PW.pt (pw_and (pt_cmpR op_eq (pv 5) pe_int (nomark _)) (pw_and1 (pt_cmpR op_gt (pe_callB (r := rLenS K) j_len (by rfl) T.n_len PySem.boot_len (pa_cons (pv 3) pa_nil)) pe_int (nomark _))))) (pss_one (ps_set (i := 6) sc_law.nd rfl (Or.inl rfl) (pe_ix (r := rIxL K) ix_list (pv 3) (pe_call G_u_law_draw (hr.mono (by omega)) rfl T.m_u_law_draw T.F_u_law_draw.kp T.b_u_law_draw .nil pass0 (pa_cons (pv 1) (pa_cons (pe_callB (r := rLenS K) j_len (by rfl) T.n_len PySem.boot_len (pa_cons (pv 3) pa_nil)) pa_nil))) (fun _ _ => rfl)))) pss_nil)
    (pss_cons (ps_if (PW.pt (pw_and (pt_cmpR op_eq (pv 5) pe_int (nomark _)) (pw_and1 (pt_cmpR op_gt (pe_callB (r := rLenS K) j_len (by rfl) T.n_len PySem.boot_len (pa_cons (pv 3) pa_nil)) pe_int (nomark _))))) (pss_cons (ps_set (i := 7) sc_law.nd rfl (Or.inl rfl) (pe_call G_u_law_spoilt (hr.mono (by omega)) rfl T.m_u_law_spoilt T.F_u_law_spoilt.kp T.b_u_law_spoilt .nil pass0 (pa_cons (pv 1) (pa_cons (pv 2) (pa_cons pe_int (pa_cons (pe_ix (r := rIxT K) ix_tup (pe_ix (r := rIxL K) ix_list (pv 3) (pe_call G_u_law_draw (hr.mono (by omega)) rfl T.m_u_law_draw T.F_u_law_draw.kp T.b_u_law_draw .nil pass0 (pa_cons (pv 1) (pa_cons (pe_callB (r := rLenS K) j_len (by rfl) T.n_len PySem.boot_len (pa_cons (pv 3) pa_nil)) pa_nil))) (fun _ _ => rfl)) pe_int (fun _ _ => rfl)) pa_nil))))))
    (pss_one (ps_if (pt_not (pt_val (pe_callB (r := rIsi K) call_isi (by rfl) T.n_isinstance boot_isinstance (pa_cons (pv 7) (pa_cons (pe_bltn (v := .ty "int") (by rfl) T.n_int boot_int rfl) pa_nil))))) (pss_one (ps_set (i := 6) sc_law.nd rfl (Or.inl rfl) (pe_tup (pa_cons (pv 7) (pa_cons (pe_tup (pa_cons (pe_ix (r := rIxT K) ix_tup (pe_ix (r := rIxL K) ix_list (pv 2) pe_int (fun _ _ => rfl)) pe_int (fun _ _ => rfl)) pa_nil)) pa_nil))))) pss_nil))) pss_nil)
    (pss_one (ps_expr (pe_bm PySem.F.plainAttrs_list PySem.F.slot_list_append PySem.F.type_list_append mt_append (pv 3) (pa_cons (pv 6) pa_nil)))))))))
    (pss_cons (ps_set (i := 8) sc_law.nd rfl (Or.inl rfl) (pe_callTy (r := rListS K) j_list (by rfl) T.n_list boot_list (pa_cons (pv 3) pa_nil)))
    (pss_cons (ps_set (i := 9) sc_law.nd rfl (Or.inl rfl) (pe_makeS T.M_RuleIndex G_RuleIndex___init (hr.mono (by omega)) rfl T.g_RuleIndex T.b_RuleIndex___init no_raise (pa_cons (pv 8) pa_nil)))
    (pss_cons (ps_expr (pe_bm PySem.F.plainAttrs_list PySem.F.slot_list_append PySem.F.type_list_append mt_append (pv 8) (pa_cons (pe_tup (pa_cons (pe_tup (pa_cons (pe_ix (r := rIxT K) ix_tup (pe_ix (r := rIxL K) ix_list (pv 2) pe_int (fun _ _ => rfl)) pe_int (fun _ _ => rfl)) pa_nil)) (pa_cons pe_int pa_nil))) pa_nil)))
    (pss_cons (ps_if (pt_not (pt_val (pe_call G_u_law_refused (hr.mono (by omega)) rfl T.m_u_law_refused T.F_u_law_refused.kp T.b_u_law_refused .nil pass0 (pa_cons (pe_callTy (r := rListS K) j_list (by rfl) T.n_list boot_list (pa_cons (pv 8) pa_nil)) pa_nil)))) (pss_one (ps_ret pe_bl)) pss_nil)
    (pss_cons (ps_for PassesOwn.never rfl (pi_range1 rfl T.n_range (pa_cons pe_int pa_nil)) (pg_name (i := 4) sc_law.nd rfl (Or.inl rfl)) (pss_cons (ps_set (i := 10) sc_law.nd rfl (Or.inr rfl) (pe_call G_u_law_reducible (hr.mono (by omega)) rfl T.m_u_law_reducible T.F_u_law_reducible.kp T.b_u_law_reducible .nil pass0 (pa_cons (pv 1) (pa_cons (pv 2) (pa_cons (pv 3) pa_nil)))))
    (pss_cons (ps_if (PW.pt (pw_and (pt_cmpR op_gt (pe_callB (r := rLenS K) j_len (by rfl) T.n_len PySem.boot_len (pa_cons (pv 3) pa_nil)) pe_int (nomark _)) (pw_and1 (pt_cmpR op_gt (pe_call G_u_law_draw (hr.mono (by omega)) rfl T.m_u_law_draw T.F_u_law_draw.kp T.b_u_law_draw .nil pass0 (pa_cons (pv 1) (pa_cons pe_int pa_nil))) pe_int (nomark _))))) (pss_cons (ps_set (i := 7) sc_law.nd rfl (Or.inl rfl) (pe_ix (r := rIxT K) ix_tup (pe_ix (r := rIxL K) ix_list (pv 3) (pe_call G_u_law_draw (hr.mono (by omega)) rfl T.m_u_law_draw T.F_u_law_draw.kp T.b_u_law_draw .nil pass0 (pa_cons (pv 1) (pa_cons (pe_callB (r := rLenS K) j_len (by rfl) T.n_len PySem.boot_len (pa_cons (pv 3) pa_nil)) pa_nil))) (fun _ _ => rfl)) pe_int (fun _ _ => rfl)))
    (pss_one (ps_set (i := 10) sc_law.nd rfl (Or.inr rfl) (pe_call G_u_law_spoilt (hr.mono (by omega)) rfl T.m_u_law_spoilt T.F_u_law_spoilt.kp T.b_u_law_spoilt .nil pass0 (pa_cons (pv 1) (pa_cons (pv 2) (pa_cons pe_int (pa_cons (pe_call G_u_law_substitute (hr.mono (by omega)) rfl T.m_u_law_substitute T.F_u_law_substitute.kp T.b_u_law_substitute .nil pass0 (pa_cons (pv 7) (pa_cons (pe_call G_u_law_short_values (hr.mono (by omega)) rfl T.m_u_law_short_values T.F_u_law_short_values.kp T.b_u_law_short_values .nil pass0 (pa_cons (pv 1) (pa_cons (pv 2) pa_nil))) pa_nil))) pa_nil)))))))) pss_nil)
    (pss_cons (ps_setLc (i := 11) (own := [("j", 12)]) (by rfl) sc_law.nd rfl rfl (sw_true rfl rfl rfl (by decide +kernel)) (pi_range1 rfl T.n_range (pa_cons (pe_callB (r := rLenS K) j_len (by rfl) T.n_len PySem.boot_len (pa_cons (pv 3) pa_nil)) pa_nil)) (blkOk_by (own := [("j", 12)]) (N := ["script", "state", "operations", "rules", "k", "kind", "rule", "left", "passed", "index", "term", "expected", "j", "question", "number"]) (sc := defScope s_law) (by decide +kernel)) (fun _ _ _ _ _ => (pg_name (i := 12) sc_law.nd rfl (Or.inl rfl))) (fun _ _ _ _ _ => (pts_one (pt_truthK (K := K) rfl (pe_call G_u_law_fits (hr.mono (by omega)) rfl T.m_u_law_fits T.F_u_law_fits.kp T.b_u_law_fits .nil pass0 (pa_cons (pe_ix (r := rIxT K) ix_tup (pe_ix (r := rIxL K) ix_list (pv 3) (pv 12) (fun _ _ => rfl)) pe_int (fun _ _ => rfl)) (pa_cons (pv 10) pa_nil))) (by intro _; rfl)))) (fun _ _ _ _ _ => (pv 12)))
    (pss_cons (ps_for PassesOwn.never rfl (pi_list (pe_lst (pa_cons (pv 10) (pa_cons (pv 10) pa_nil)))) (pg_name (i := 13) sc_law.nd rfl (Or.inl rfl)) (pss_one (ps_if (pt_cmpR (r := rNeD K) (op_neD hr.units) (pe_meth (pv 9) T.K_RuleIndex T.H_RuleIndex_candidates G_RuleIndex_candidates (hr.mono (by omega)) T.b_RuleIndex_candidates .nil pass0 (pa_cons (pv 13) pa_nil)) (pv 11) (nomark _)) (pss_one (ps_ret pe_bl)) pss_nil)))
    (pss_one (ps_if (pt_cmpR (r := rIn K false) op_in_seq pe_bl (pe_lc (own := [("number", 14)]) (by rfl) sc_law.nd (pi_list (pe_meth (pv 9) T.K_RuleIndex T.H_RuleIndex_candidates G_RuleIndex_candidates (hr.mono (by omega)) T.b_RuleIndex_candidates .nil pass0 (pa_cons (pv 10) pa_nil))) (blkOk_by (own := [("number", 14)]) (N := ["script", "state", "operations", "rules", "k", "kind", "rule", "left", "passed", "index", "term", "expected", "j", "question", "number"]) (sc := defScope s_law) (by decide +kernel)) (fun _ _ _ _ _ => (pg_name (i := 14) sc_law.nd rfl (Or.inl rfl))) (fun _ _ _ _ _ => pts_nil) (fun _ _ _ _ _ => (pe_call G_u_law_is_integer (hr.mono (by omega)) rfl T.m_u_law_is_integer T.F_u_law_is_integer.kp T.b_u_law_is_integer .nil pass0 (pa_cons (pv 14) pa_nil)))) rfl) (pss_one (ps_ret pe_bl)) pss_nil)))))))
    (pss_one (ps_ret pe_bl))))))))))), ?_⟩
  walk_at "rd"
  refine ⟨a, ns, rfl, hS, h63, fun s l H1 s1 n1 _ st1 => ?_⟩
  walk_at "rd"
  refine ⟨s, l, rfl, st1, fun o fs H2 b2 st2 no op2 => ?_⟩
  have hn := op2.1
  walk_at "rd"
  dsimp only [gName]
  refine at_state (t := tSeq _ _) (σ' := [some (.ref a), some (.ref s), some (.ref o), none, none, none, none, none, none, none, none, none, none, none, none]) rfl ?_
  walk_at "rd"
  refine ⟨show 0 ≤ sizeLine by decide, ?_⟩
  first | intro D nD | refine fun D nD => ?_
  generalize ehn : upd H2 D _ = H3
  have s3 := J.al_same nD ehn
  have hD := J.al_at ehn
  clear ehn
  have st3 := st2.same s3
  have op3 := op2.same s3
  have os := op3.ne st3
  have sD : s ≠ D := (st2.free nD).1
  have lD : l ≠ D := (st2.free nD).2
  have oD : o ≠ D := fun z => by obtain ⟨_, _, as, e0, _⟩ := op2; rw [z, nD] at e0; cases e0
  walk_at "rd"
  refine ⟨s, l, 7, rfl, st3, by decide, by decide, fun m H4 m0 m1 b4 st4 => ?_⟩
  obtain ⟨m, rfl⟩ := Int.eq_ofNat_of_zero_le m0
  walk_at "rd"
  refine ⟨by omega, by omega, for_range (lo := 0) (n := m) (fun i σ' H' => ∃ (x4 x5 x6 x7 : Option V) (ws : List V) (xs : List (Tm × Tm)), σ' = [some (.ref a), some (.ref s), some (.ref o), some (.ref D), x4, x5, x6, x7, none, none, none, none, none, none, none] ∧ H' D = some (.lst ws) ∧ PrIn H' ws xs ∧ xs.length = i ∧ (∀ x ∈ xs, RkL fs i x) ∧ St H' s l ∧ (∀ c ob, H3 c = some ob → c ≠ s → c ≠ D → H' c = some ob)) ?_ ?_ ?_⟩
  · exact ⟨none, none, none, none, [], [], rfl, b4 _ _ hD sD.symm, trivial, rfl, (fun x hx => nomatch hx), st4, fun c ob e n1 _ => b4 _ _ e n1⟩
  · rintro i σ' H5 hi ⟨x4, x5, x6, x7, ws, xs, rfl, hD5, hpr5, xl, hw, st5, f⟩
    have wl := hpr5.length
    have op5 : Ops H5 o fs := by
      obtain ⟨n1, hl, as, h1, h2, h3⟩ := op3
      exact ⟨n1, hl, as, f _ _ h1 os oD, h2, fun k f' a e e' => f _ _ (h3 k f' a e e') (st3.ne_tup (h3 k f' a e e')) fun z => by have q9 := h3 k f' a e e'; rw [z, hD] at q9; cases q9⟩
    walk_at "rd"
    refine ⟨s, l, 3, rfl, st5, by decide, by decide, fun kd H6 kd0 kd1 b6 st6 => ?_⟩
    have op6 := op5.but st5 b6
    dsimp only [gName]
    refine at_state (t := tSeq _ _) (σ' := [some (.ref a), some (.ref s), some (.ref o), some (.ref D), some (.int (0 + (i : Int))), some (.int kd), x6, x7, none, none, none, none, none, none, none]) rfl ?_
    walk_at "rd"
    refine ⟨s, l, o, fs, 2, 2, rfl, by decide, st6, op6, by decide, by decide, fun p H7 b7 st7 ⟨t, r, u, v, hp7, hu, hv, wt, wr, zt, dt, zr, dr, ir⟩ => ?_⟩
    have bp7 : Bp fs i H7 p := ⟨t, r, u, v, hp7, hu, hv, wt, by show t.sz ≤ _; omega, zr, by show t.dep ≤ _; omega, dr, ir⟩
    have b57 := b6.trans b7
    have hD7 := b57 _ _ hD5 sD.symm
    have tu57 := st5.tu b57
    have hpr7 := hpr5.tu tu57
    have op7 := op5.but st5 b57
    clear hp7 hu hv wt wr zt dt zr dr ir
    dsimp only [gName]
    refine at_state (t := tSeq _ _) (σ' := [some (.ref a), some (.ref s), some (.ref o), some (.ref D), some (.int (0 + (i : Int))), some (.int kd), some (.ref p), x7, none, none, none, none, none, none, none]) rfl ?_
    refine seq_join (t := tIfS _ _ _) (fun σ' H8 => ∃ p : Addr, σ' = [some (.ref a), some (.ref s), some (.ref o), some (.ref D), some (.int (0 + (i : Int))), some (.int kd), some (.ref p), x7, none, none, none, none, none, none, none] ∧ Bp fs i H8 p ∧ But s H7 H8 ∧ St H8 s l) ?_ (fun Nx cont => ?_)
    rotate_left
    · dsimp only [tIfS]
      refine tt_at (t := tAnd _ _) ((kd == 0) && decide (0 < (ws.length : Int))) (fun Qf hq => ?_) ?_
      · dsimp only [tAnd]
        refine tt_at (t := tTest _) (kd == 0) (fun Qf2 hq2 => ?_) ?_
        · walk_at "rd"
          rw [dec_int]
          exact hq2
        cases e : kd == 0 with
        | false =>
          rw [e] at hq
          refine (if_neg Bool.false_ne_true : ite _ _ _ = _).mpr ?_
          exact hq
        | true =>
          rw [e] at hq
          refine (if_pos rfl : ite _ _ _ = _).mpr ?_
          walk_at "rd"
          exact hq
      by_cases c : ((kd == 0) && decide (0 < (ws.length : Int))) = true
      · rw [c]
        rw [Bool.and_eq_true] at c
        have c2 := of_decide_eq_true c.2
        refine (if_pos rfl : ite _ _ _ = _).mpr ?_
        walk_at "rd"
        refine ⟨s, l, (ws.length : Int), rfl, st7, by omega, by omega, fun j H8 j0 j1 b8 st8 => ?_⟩
        obtain ⟨j, rfl⟩ := Int.eq_ofNat_of_zero_le j0
        have hD8 := b8 _ _ hD7 sD.symm
        have hpr8 := hpr7.tu (st7.tu b8)
        have gw := List.getElem?_eq_getElem (l := ws) (i := j) (by omega)
        generalize ws[j]'(by omega) = w' at gw
        obtain ⟨x, b, u, v, gx, rfl, hb, hu, hv⟩ := hpr8.get gw
        walk_at "rd"
        refine ⟨D, ws, _, .ref b, rfl, rfl, SqL.of hD8, atI_nat gw, ?_⟩
        exact cont _ _ ⟨b, rfl, ⟨x.1, x.2, u, v, hb, hu, hv, (hw x (List.mem_of_getElem? gx))⟩, b8, st8⟩
      · have c := (Bool.not_eq_true _).mp c
        rw [c]
        refine (if_neg Bool.false_ne_true : ite _ _ _ = _).mpr ?_
        walk_at "rd"
        exact cont _ _ ⟨p, rfl, bp7, But.refl _ _, st7⟩
    rintro σ8 H8 ⟨p, rfl, bp8, b78, st8⟩
    have hD8 := b78 _ _ hD7 sD.symm
    have tu78 := st7.tu b78
    have hpr8 := hpr7.tu tu78
    have op8 := op7.but st7 b78
    refine seq_join (t := tIfS _ _ _) (fun σ' H9 => ∃ (p : Addr) (x7 : Option V), σ' = [some (.ref a), some (.ref s), some (.ref o), some (.ref D), some (.int (0 + (i : Int))), some (.int kd), some (.ref p), x7, none, none, none, none, none, none, none] ∧ Bp fs (i + 1) H9 p ∧ But s H8 H9 ∧ St H9 s l) ?_ (fun Nx cont => ?_)
    rotate_left
    · dsimp only [tIfS]
      refine tt_at (t := tAnd _ _) ((kd == 1) && decide (0 < (ws.length : Int))) (fun Qf hq => ?_) ?_
      · dsimp only [tAnd]
        refine tt_at (t := tTest _) (kd == 1) (fun Qf2 hq2 => ?_) ?_
        · walk_at "rd"
          rw [dec_int]
          exact hq2
        cases e : kd == 1 with
        | false =>
          rw [e] at hq
          refine (if_neg Bool.false_ne_true : ite _ _ _ = _).mpr ?_
          exact hq
        | true =>
          rw [e] at hq
          refine (if_pos rfl : ite _ _ _ = _).mpr ?_
          walk_at "rd"
          exact hq
      by_cases c : ((kd == 1) && decide (0 < (ws.length : Int))) = true
      · rw [c]
        rw [Bool.and_eq_true] at c
        have c2 := of_decide_eq_true c.2
        refine (if_pos rfl : ite _ _ _ = _).mpr ?_
        walk_at "rd"
        refine ⟨s, l, (ws.length : Int), rfl, st8, by omega, by omega, fun j H9 j0 j1 b9 st9 => ?_⟩
        obtain ⟨j, rfl⟩ := Int.eq_ofNat_of_zero_le j0
        have hD9 := b9 _ _ hD8 sD.symm
        have tu9 := st8.tu b9
        have hpr9 := hpr8.tu tu9
        have op9 := op8.but st8 b9
        have gw := List.getElem?_eq_getElem (l := ws) (i := j) (by omega)
        generalize ws[j]'(by omega) = w' at gw
        obtain ⟨x, b, u, v, gx, rfl, hb, hu, hv⟩ := hpr9.get gw
        obtain ⟨k1, k2, k3, k4, k5, k6⟩ := hw x (List.mem_of_getElem? gx)
        walk_at "rd"
        refine ⟨D, ws, _, .ref b, rfl, rfl, SqL.of hD9, atI_nat gw, ?_⟩
        walk_at "rd"
        refine ⟨s, l, o, fs, 2, 2, u, x.1, rfl, st9, op9, by decide, by decide, by decide, hu, k1, by omega, by omega, fun rv t H10 b10 st10 ht wt zt dt => ?_⟩
        have hb10 := hb
        have op10 := op9.but st9 b10
        cases t with
        | var n =>
          cases (show rv = .int n from ht)
          walk_at "ri"
          obtain ⟨x', r, u, v, h1, h2, h3, h4⟩ := bp8
          have tu := tu9.trans (st9.tu b10)
          exact cont _ _ ⟨p, _, rfl, ⟨x', r, u, v, tu _ _ h1, h2.tu tu, h3.tu tu, h4.up⟩, b9.trans b10, st10⟩
        | app f us =>
          obtain ⟨ta, uvs, rfl, hta, hus⟩ := ht
          have hfl := op10.2.1
          obtain ⟨os', a0, c0, ho, _, ha0, hc0, hta0⟩ := op10.get (k := 0) (by omega)
          walk_at "ri"
          refine ⟨o, os', 0, .ref a0, rfl, rfl, SqL.of ho, atI_nat (j := 0) ha0, ?_⟩
          walk_at "rd"
          refine ⟨show 1 ≤ sizeLine by decide, ?_⟩
          first | intro e1 n11 | refine fun e1 n11 => ?_
          generalize ehn : upd H10 e1 _ = H11
          have s11 := J.al_same n11 ehn
          have h11 := J.al_at ehn
          clear ehn
          refine ⟨show 2 ≤ sizeLine by decide, ?_⟩
          first | intro e2 n12 | refine fun e2 n12 => ?_
          generalize ehn : upd H11 e2 _ = H12
          have s12 := J.al_same n12 ehn
          have h12 := J.al_at ehn
          clear ehn
          have tu12 := tu_same (s11.trans s12)
          exact cont _ _ ⟨e2, _, rfl, ⟨.app f us, .app c0 [], _, _, h12, ⟨ta, uvs, rfl, tu12 _ _ hta, hus.tu tu12⟩, ⟨e1, [], rfl, s12 _ _ h11, rfl⟩, wt, by show (Tm.app f us).sz ≤ _; omega, by show 1 ≤ 200; decide, by show (Tm.app f us).dep ≤ _; omega, by show 1 ≤ 6; decide, rfl⟩, (b9.trans b10).trans (but_same (s11.trans s12)), st10.same (s11.trans s12)⟩
      · have c := (Bool.not_eq_true _).mp c
        rw [c]
        refine (if_neg Bool.false_ne_true : ite _ _ _ = _).mpr ?_
        walk_at "rd"
        obtain ⟨x, r, u, v, h1, h2, h3, h4⟩ := bp8
        exact cont _ _ ⟨p, _, rfl, ⟨x, r, u, v, h1, h2, h3, h4.up⟩, But.refl _ _, st8⟩
    rintro σ9 H9 ⟨p, x7, rfl, bp9, b89, st9⟩
    have hD9 := b89 _ _ hD8 sD.symm
    have hpr9 := hpr8.tu (st8.tu b89)
    obtain ⟨t, r, u, v, hp9, hu, hv, rk⟩ := bp9
    walk_at "rd"
    refine ⟨.inl ⟨rfl, _, SqL.of hD9⟩, ?_⟩
    walk_at "rd"
    refine ⟨D, _, _, rfl, rfl, hD9, Nat.lt_of_le_of_lt (show ws.length ≤ 10 by omega) (by decide), ?_⟩
    generalize ehn : upd H9 D _ = H10
    have b10 := J.al_but ehn
    have h10 := J.al_at ehn
    clear ehn
    have tu10 := but_tu b10 (lst_not_tup hD9)
    walk_at "rd"
    refine ⟨_, _, _, _, _, xs ++ [(t, r)], rfl, h10, (hpr9.tu tu10).app ⟨⟨p, u, v, rfl, tu10 _ _ hp9, hu.tu tu10, hv.tu tu10⟩, trivial⟩, by rw [List.length_append, xl]; rfl, fun y hy => ?_, st9.but b10 sD lD, fun c ob e n1 n2 => b10 _ _ (b89 _ _ (b78 _ _ (b57 _ _ (f c ob e n1 n2) n1) n1) n1) n2⟩
    rcases List.mem_append.mp hy with z | z
    · exact (hw y z).up
    · rw [List.mem_singleton.mp z]; exact rk
  · rintro σ' H5 ⟨x4, x5, x6, x7, ws, xs, rfl, hD5, hpr5, xl, hw, st5, f⟩
    have wl := hpr5.length
    walk_at "rd"
    first | intro pp n6 | refine fun pp n6 => ?_
    generalize ehn : upd H5 pp _ = H6
    have s6 := J.al_same n6 ehn
    have h6 := J.al_at ehn
    clear ehn
    have hD6 := s6 _ _ hD5
    have hpr6 := hpr5.tu (tu_same s6)
    have st6 := st5.same s6
    have pD : pp ≠ D := fun z => by rw [z, hD5] at n6; cases n6
    have ps : s ≠ pp := (st5.free n6).1
    have pl : l ≠ pp := (st5.free n6).2
    have op5 : Ops H5 o fs := by
      obtain ⟨n1, hl, as, h1, h2, h3⟩ := op3
      exact ⟨n1, hl, as, f _ _ h1 os oD, h2, fun k f' a e e' => f _ _ (h3 k f' a e e') (st3.ne_tup (h3 k f' a e e')) fun z => by have q9 := h3 k f' a e e'; rw [z, hD] at q9; cases q9⟩
    have op6 := op5.same s6
    have oP : o ≠ pp := fun z => by obtain ⟨_, _, as, e0, _⟩ := op5; rw [z, n6] at e0; cases e0
    dsimp only [gName]
    refine at_state (t := tSeq _ _) (σ' := [some (.ref a), some (.ref s), some (.ref o), some (.ref D), x4, x5, x6, x7, some (.ref pp), none, none, none, none, none, none]) rfl ?_
    walk_at "rd"
    refine fun x xd nx nxd ne => ?_
    have s0 : Same H6 (upd (upd H6 xd (.own x)) x (.ins A.c_RuleIndex xd [])) := fun b o e => by
      rw [upd_ne (ne_of_none e nx), upd_ne (ne_of_none e nxd)]
      exact e
    have h0 : upd (upd H6 xd (.own x)) x (.ins A.c_RuleIndex xd []) x = some (.ins A.c_RuleIndex xd []) := upd_same
    generalize upd (upd H6 xd (.own x)) x (.ins A.c_RuleIndex xd []) = H0 at s0 h0
    have rok : RulesOk xs := fun y hy => by
      obtain ⟨k1, k2, k3, k4, k5, k6⟩ := hw y hy
      exact ⟨by omega, by omega, by omega, by omega⟩
    have allr : ∀ y ∈ xs, isRule y.1 y.2 = true := fun y hy => (hw y hy).2.2.2.2.2
    have fbn := fbad_none allr
    refine ⟨x, xd, pp, ws, xs, rfl, h0, s0 _ _ h6, hpr6.tu (tu_same s0), by omega, rok, ⟨fun _ ra pths H7 ea ed b07 ri young => ⟨rfl, ?_⟩, fun i z => (by rw [fbn] at z; cases z)⟩⟩
    subst ea ed
    have ea : ra.p = ra.p := rfl
    have k67 : Same H6 H7 := fun b o e => b07 _ _ (s0 _ _ e) fun z => by rw [z, nx] at e; cases e
    have yg : ∀ b, RgI H7 ra b → H6 b = none := fun b hb => by
      have := young b hb
      cases e : H6 b with
      | none => rfl
      | some o => rw [s0 _ _ e] at this; cases this
    have ns : ∀ b o, H6 b = some o → ¬ RgI H7 ra b ∧ ra.p ≠ b := fun b o e => ⟨fun r => (by rw [yg b r] at e; cases e), fun z => by rw [ea] at z; rw [← z, nx] at e; cases e⟩
    have hD7 := k67 _ _ hD6
    have h7 := k67 _ _ h6
    have hpr7 := hpr6.tu (tu_same k67)
    have st7 := st6.same k67
    have op7 := op6.same k67
    clear young b07 h0 s0
    dsimp only [gName]
    refine at_state (t := tSeq _ _) (σ' := [some (.ref a), some (.ref s), some (.ref o), some (.ref D), x4, x5, x6, x7, some (.ref pp), some (.ref ra.p), none, none, none, none, none]) rfl ?_
    walk_at "rd"
    refine ⟨.inl ⟨rfl, _, SqL.of h7⟩, ?_⟩
    have hfl := op7.2.1
    obtain ⟨os', a1, c1, ho, _, ha1, hc1, hta1⟩ := op7.get (k := 1) (by omega)
    walk_at "rd"
    refine ⟨o, os', 1, .ref a1, rfl, rfl, SqL.of ho, atI_nat (j := 1) ha1, ?_⟩
    walk_at "rd"
    refine ⟨show 1 ≤ sizeLine by decide, ?_⟩
    first | intro e1 n8 | refine fun e1 n8 => ?_
    generalize ehn : upd H7 e1 _ = H8
    have s8 := J.al_same n8 ehn
    have h8 := J.al_at ehn
    clear ehn
    refine ⟨show 2 ≤ sizeLine by decide, ?_⟩
    first | intro e2 n9 | refine fun e2 n9 => ?_
    generalize ehn : upd H8 e2 _ = H9
    have s9 := J.al_same n9 ehn
    have h9 := J.al_at ehn
    clear ehn
    have s79 := s8.trans s9
    have hpp9 := s79 _ _ h7
    refine ⟨pp, _, _, rfl, rfl, hpp9, Nat.lt_of_le_of_lt (show ws.length ≤ 10 by omega) (by decide), ?_⟩
    generalize ehn : upd H9 pp _ = H10
    have b10 := J.al_but ehn
    have h10 := J.al_at ehn
    clear ehn
    have tu910 := but_tu b10 (lst_not_tup hpp9)
    have b710 := (but_same s79).trans b10
    have tu710 := (tu_same s79).trans tu910
    have hD10 := b710 _ _ hD7 pD.symm
    have hpr10 := hpr7.tu tu710
    have st10 := (st7.same s79).but b10 ps pl
    have op10 : Ops H10 o fs := by
      obtain ⟨n1, hl, as, h1, h2, h3⟩ := op7
      exact ⟨n1, hl, as, b710 _ _ h1 oP, h2, fun k f' a e e' => tu710 _ _ (h3 k f' a e e')⟩
    obtain ⟨ri10, rg10⟩ := ri.keepB b710 (ns _ _ h6).1 (ns _ _ h6).2
    have hxs : PrIn H10 (ws ++ [.ref e2]) (xs ++ [(.app c1 [], .var 0)]) := hpr10.app ⟨⟨e2, _, _, rfl, tu910 _ _ h9, ⟨e1, [], rfl, tu910 _ _ (s9 _ _ h8), rfl⟩, rfl⟩, trivial⟩
    have fbs : fbad (xs ++ [(Tm.app c1 [], Tm.var 0)]) = some xs.length := by
      refine fbad_at (x := (Tm.app c1 [], Tm.var 0)) (fun y hy => ?_) ?_ rfl
      · rw [List.take_left' rfl] at hy
        exact allr y hy
      · rw [List.getElem?_append_right (Nat.le_refl _), Nat.sub_self]; rfl
    walk_at "rd"
    first | intro p3 n11 | refine fun p3 n11 => ?_
    generalize ehn : upd H10 p3 _ = H11
    have s11 := J.al_same n11 ehn
    have h11 := J.al_at ehn
    clear ehn
    walk_at "rd"
    refine ⟨p3, _, _, rfl, h11, hxs.tu (tu_same s11), by rw [List.length_append]; show xs.length + 1 ≤ 90; omega, fun y hy => ?_, by rw [fbs, List.length_append]; rfl, by rw [List.length_append]; exact Nat.succ_ne_zero _, fun H12 s12 => ?_⟩
    · rcases List.mem_append.mp hy with z | z
      · exact rok y z
      · rw [List.mem_singleton.mp z]
        exact ⟨by show 1 ≤ 10000; decide, by show 1 ≤ 10000; decide, by show 1 ≤ 50; decide, by show 1 ≤ 50; decide⟩
    refine ⟨_, rfl, ?_⟩
    refine (if_neg (by decide) : ite _ _ _ = _).mpr ?_
    have s1012 := s11.trans s12
    have hD12 := s1012 _ _ hD10
    have hpr12 := hpr10.tu (tu_same s1012)
    have st12 := st10.same s1012
    have op12 := op10.same s1012
    obtain ⟨ri12, rg12⟩ := ri10.keep fun b o _ e => s1012 b o e
    have ns12 : ¬ RgI H12 ra s ∧ ra.p ≠ s := by
      obtain ⟨sv, sa, sd, sn, se, _⟩ := st6
      exact ⟨fun r => (ns _ _ se).1 (rg10 _ (rg12 _ r)), (ns _ _ se).2⟩
    walk_at "rd"
    refine ⟨by decide, by decide, for_range (lo := 0) (n := 2) (fun i σ' H' => ∃ (x4 x7 x10 x11 x13 : Option V), σ' = [some (.ref a), some (.ref s), some (.ref o), some (.ref D), x4, x5, x6, x7, some (.ref pp), some (.ref ra.p), x10, x11, none, x13, none] ∧ But s H12 H' ∧ St H' s l) ?_ ?_ ?_⟩
    · exact ⟨_, _, _, _, _, rfl, But.refl _ _, st12⟩
    · rintro i σ' H13 hi ⟨x4, x7, x10, x11, x13, rfl, b13, st13⟩
      have tu13 := st12.tu b13
      have hD13 := b13 _ _ hD12 sD.symm
      have hpr13 := hpr12.tu tu13
      have op13 := op12.but st12 b13
      walk_at "rd"
      have okr : ∀ y ∈ xs, y.1.sz ≤ 230 ∧ y.1.dep ≤ 16 ∧ y.1.wf fs 3 := fun y hy => by
        obtain ⟨k1, k2, k3, k4, k5, k6⟩ := hw y hy
        exact ⟨by omega, by omega, Tm.wf_mono (by decide) _ k1⟩
      refine ⟨s, l, o, D, fs, ws, xs, rfl, st13, op13, hD13, sD.symm, hpr13, by omega, okr, fun v t H14 b14 st14 ht wt zt dt => ?_⟩
      have tu14 := st13.tu b14
      have hD14 := b14 _ _ hD13 sD.symm
      have hpr14 := hpr13.tu tu14
      have op14 := op13.but st13 b14
      dsimp only [gName]
      refine at_state (t := tSeq _ _) (σ' := [some (.ref a), some (.ref s), some (.ref o), some (.ref D), some (.int (0 + (i : Int))), x5, x6, x7, some (.ref pp), some (.ref ra.p), some v, x11, none, x13, none]) rfl ?_
      refine seq_join (t := tIfS _ _ _) (fun σ' H15 => ∃ (x7 : Option V) (v : V) (t : Tm), σ' = [some (.ref a), some (.ref s), some (.ref o), some (.ref D), some (.int (0 + (i : Int))), x5, x6, x7, some (.ref pp), some (.ref ra.p), some v, x11, none, x13, none] ∧ But s H14 H15 ∧ St H15 s l ∧ TmIn H15 t v ∧ t.wf fs 3 ∧ t.sz ≤ 6000 ∧ t.dep ≤ 55) ?_ (fun Nx cont => ?_)
      rotate_left
      · dsimp only [tIfS, tAnd]
        refine tt_at (t := tTest _) (decide (0 < (ws.length : Int))) (fun Qf2 hq2 => ?_) ?_
        · walk_at "rd"
          exact hq2
        by_cases c : 0 < (ws.length : Int)
        · rw [decide_eq_true c]
          refine (if_pos rfl : ite _ _ _ = _).mpr ?_
          walk_at "rd"
          refine ⟨s, l, 3, rfl, st14, by decide, by decide, fun kq H15 kq0 kq1 b15 st15 => ?_⟩
          have tu15 := st14.tu b15
          have hD15 := b15 _ _ hD14 sD.symm
          have hpr15 := hpr14.tu tu15
          have op15 := op14.but st14 b15
          walk_at "rd"
          refine ifD (fun cq => ?_) (fun cq => ?_)
          · walk_at "rd"
            refine ⟨s, l, (ws.length : Int), rfl, st15, by omega, by omega, fun j H16 j0 j1 b16 st16 => ?_⟩
            obtain ⟨j, rfl⟩ := Int.eq_ofNat_of_zero_le j0
            have tu16 := st15.tu b16
            have hD16 := b16 _ _ hD15 sD.symm
            have op16 := op15.but st15 b16
            have gw := List.getElem?_eq_getElem (l := ws) (i := j) (by omega)
            generalize ws[j]'(by omega) = w' at gw
            obtain ⟨y, b, u, v', gx, rfl, hb, hu, hv⟩ := (hpr15.tu tu16).get gw
            obtain ⟨k1, k2, k3, k4, k5, k6⟩ := hw y (List.mem_of_getElem? gx)
            walk_at "rd"
            refine ⟨D, ws, _, .ref b, rfl, rfl, SqL.of hD16, atI_nat gw, ?_⟩
            walk_at "rd"
            refine ⟨s, l, o, fs, rfl, st16, op16, fun d kvs tb H17 b17 st17 nd hd htb hv17 hall => ?_⟩
            walk_at "rd"
            have hu17 := hu.tu (st16.tu b17)
            have op17 := op16.but st16 b17
            refine ⟨u, y.1, d, look tb, rfl, hu17, TbIn.sb hd htb, by omega, by omega, fun fv H18 s18 hf => ?_⟩
            have vb : ∀ n, ((look tb n).getD (.var n)).sz ≤ 4 ∧ ((look tb n).getD (.var n)).dep ≤ 1 + 1 := fun n => by
              cases e : look tb n with
              | none => exact ⟨by show 1 ≤ 4; omega, by show 1 ≤ 2; omega⟩
              | some W => have := hv17 _ (look_mem e); exact this.2
            have sb := sub_szM (look tb) 4 1 (by decide) y.1 fun n _ => vb n
            have sw := sub_wf (C := 3) (look tb) y.1 (Tm.wf_mono (show (2 : Int) ≤ 3 by decide) _ k1) fun n hn => by
              cases e : look tb n with
              | none => exact occ_wf y.1 (Tm.wf_mono (show (2 : Int) ≤ 3 by decide) _ k1) n hn
              | some W => have := hv17 _ (look_mem e); exact this.1
            walk_at "rd"
            refine ⟨s, l, o, fs, 3, 3, fv, sub (look tb) y.1, rfl, st17.same s18, op17.same s18, by decide, by decide, by decide, hf, sw, by omega, by omega, fun rv t' H19 b19 st19 ht' wt' zt' dt' => ?_⟩
            exact cont _ _ ⟨_, _, t', rfl, b15.trans (b16.trans (b17.trans ((but_same s18).trans b19))), st19, ht', wt', by omega, by omega⟩
          · walk_at "rd"
            exact cont _ _ ⟨_, _, t, rfl, b15, st15, ht.tu tu15, wt, by omega, by omega⟩
        · rw [decide_eq_false c]
          refine (if_neg Bool.false_ne_true : ite _ _ _ = _).mpr ?_
          refine (if_neg Bool.false_ne_true : ite _ _ _ = _).mpr ?_
          walk_at "rd"
          exact cont _ _ ⟨_, _, t, rfl, But.refl _ _, st14, ht, wt, by omega, by omega⟩
      rintro σ15 H15 ⟨x7, v, t, rfl, b15, st15, ht, wt, zt, dt⟩
      have b1215 := b13.trans (b14.trans b15)
      have hD15 := b15 _ _ hD14 sD.symm
      have tu15 := st14.tu b15
      have hpr15 := hpr14.tu tu15
      have op15 := op14.but st14 b15
      obtain ⟨ri15, rg15⟩ := ri12.keepB b1215 ns12.1 ns12.2
      walk_at "rd"
      refine ⟨by omega, by omega, fun D2 n2 => ?_⟩
      rw [Int.toNat_natCast]
      refine lc_range (lo := 0) (n := ws.length) (fun i H' => H' D2 = some (.lst ((numsP (fun l => gen l t) ((xs.take i).map (·.1))).map V.int)) ∧ (∀ c ob, H15 c = some ob → H' c = some ob)) ?_ ?_ ?_
      · refine ⟨upd_same, fun c ob e => ?_⟩
        rw [upd_ne (ne_of_none e n2)]; exact e
      · rintro i2 H16 hi2 ⟨h16, k16⟩
        have i2l : i2 < xs.length := by omega
        have gw := List.getElem?_eq_getElem (l := ws) (i := i2) (by omega)
        generalize ws[i2]'(by omega) = w' at gw
        have tu16 : Tu H15 H16 := fun c us e => k16 _ _ e
        obtain ⟨y, b, u, v', gx, rfl, hb, hu, hv⟩ := (hpr15.tu tu16).get gw
        obtain ⟨k1, k2, k3, k4, k5, k6⟩ := hw y (List.mem_of_getElem? gx)
        have gx1 : (xs.map (·.1))[i2]? = some y.1 := by rw [List.getElem?_map, gx]; rfl
        have lti : ((xs.map (·.1)).take i2).length = i2 := by rw [List.length_take, List.length_map]; omega
        have hn2 : (numsP (fun l => gen l t) ((xs.take (i2 + 1)).map (·.1))) = numsP (fun l => gen l t) ((xs.take i2).map (·.1)) ++ (if gen y.1 t then [(i2 : Int)] else []) := by
          rw [List.map_take, list_take_succ gx1, numsP_snoc, lti, List.map_take]
        have hlen : (numsP (fun l => gen l t) ((xs.take i2).map (·.1))).length ≤ 6 := by
          refine Nat.le_trans (numsP_len _ _) ?_
          rw [List.length_map, List.length_take]; omega
        refine ⟨rfl, ?_⟩
        dsimp only [tTruK]
        walk_at "rd"
        refine ⟨D, ws, _, .ref b, rfl, rfl, SqL.of (k16 _ _ hD15), by rw [Int.zero_add]; exact atI_nat gw, ?_⟩
        walk_at "rd"
        refine ⟨u, v, y.1, t, rfl, hu, ht.tu tu16, by omega, by omega, by omega, fun H17 s17 => ?_⟩
        refine ⟨_, rfl, ?_⟩
        have h17 := s17 _ _ h16
        cases e : gen y.1 t with
        | true =>
          rw [e] at hn2
          refine (if_pos rfl : ite _ _ _ = _).mpr ?_
          walk_at "rd"
          refine ⟨_, h17, Nat.lt_of_le_of_lt (show _ ≤ 6 by rw [List.length_map]; exact hlen) (by decide), ?_, fun c ob e => ?_⟩
          · rw [upd_same, hn2, List.map_append, Int.zero_add]; rfl
          · rw [upd_ne fun z => by rw [z, n2] at e; cases e]
            exact s17 _ _ (k16 _ _ e)
        | false =>
          rw [e] at hn2
          refine (if_neg Bool.false_ne_true : ite _ _ _ = _).mpr ?_
          refine ⟨?_, fun c ob e => s17 _ _ (k16 _ _ e)⟩
          rw [hn2, h17]
          show _ = some (HO.lst (List.map V.int (_ ++ [])))
          rw [List.append_nil]
      · rintro H16 ⟨h16, k16⟩
        rw [show xs.take ws.length = xs by rw [wl, List.take_length]] at h16
        obtain ⟨ri16, rg16⟩ := ri15.keep fun b o _ e => k16 b o e
        have nl : (numsP (fun l => gen l t) (xs.map (·.1))).length ≤ 6 := Nat.le_trans (numsP_len _ _) (by rw [List.length_map]; omega)
        have st16 := st15.same k16
        have tu16 : Tu H15 H16 := fun c us e => k16 _ _ e
        have ht16 := ht.tu tu16
        dsimp only [gName]
        refine at_state (t := tSeq _ _) (σ' := [some (.ref a), some (.ref s), some (.ref o), some (.ref D), some (.int (0 + (i : Int))), x5, x6, x7, some (.ref pp), some (.ref ra.p), some v, some (.ref D2), none, x13, none]) rfl ?_
        walk_at "rd"
        refine ⟨show 2 ≤ sizeLine by decide, ?_⟩
        first | intro Y n17 | refine fun Y n17 => ?_
        generalize ehn : upd H16 Y _ = H17
        have s17 := J.al_same n17 ehn
        have h17 := J.al_at ehn
        clear ehn
        refine ⟨Y, rfl, ⟨_, SqL.of h17⟩, for_list (xs := [v, v]) (fun i' σ' H' => ∃ x13 : Option V, σ' = [some (.ref a), some (.ref s), some (.ref o), some (.ref D), some (.int (0 + (i : Int))), x5, x6, x7, some (.ref pp), some (.ref ra.p), some v, some (.ref D2), none, x13, none] ∧ Same H17 H') ?_ ?_ ?_ ?_⟩
        · exact ⟨x13, rfl, Same.refl _⟩
        · rintro i' σ' H18 hi' ⟨x13, rfl, k18⟩
          exact SqL.of (k18 _ _ h17)
        · rintro i' y σ' H18 hi' ⟨x13, rfl, k18⟩
          have yv : y = v := by
            have := List.mem_of_getElem? hi'
            simpa using this
          subst yv
          have s1618 := s17.trans k18
          obtain ⟨ri18, _⟩ := ri16.keep fun b o _ e => s1618 b o e
          walk_at "rd"
          refine ⟨ra.p, _, _, rfl, ri18.ob, ria_no _ (by decide +kernel) (by decide +kernel), ?_⟩
          walk_at "rd"
          refine ⟨ra, _, _, y, t, fs, 3, 2, rfl, ri18, ht16.tu (tu_same s1618), hn.nd, wt, (fun l hl => by obtain ⟨z, hz, rfl⟩ := List.mem_map.mp hl; exact (hw z hz).1), by omega, by rw [List.length_map]; omega, fun p H19 s19 n19 h19 => ?_⟩
          walk_at "rd"
          refine ⟨_, _, .lst (SqL.of h19) (dp_ints _), .lst (SqL.of (s19 _ _ (s1618 _ _ h16))) (dp_ints _), iShaped _, iShaped _, ?_⟩
          rw [SeqAt.eqv_refl _ (iLay2 _)]
          walk_at "rd"
          exact k18.trans s19
        · rintro σ' H18 ⟨x13, rfl, k18⟩
          have s1618 := s17.trans k18
          obtain ⟨ri18, _⟩ := ri16.keep fun b o _ e => s1618 b o e
          walk_at "rd"
          refine ⟨ra.p, _, _, rfl, ri18.ob, ria_no _ (by decide +kernel) (by decide +kernel), ?_⟩
          walk_at "rd"
          refine ⟨ra, _, _, v, t, fs, 3, 2, rfl, ri18, ht16.tu (tu_same s1618), hn.nd, wt, (fun l hl => by obtain ⟨z, hz, rfl⟩ := List.mem_map.mp hl; exact (hw z hz).1), by omega, by rw [List.length_map]; omega, fun p H19 s19 n19 h19 => ?_⟩
          walk_at "rd"
          refine ⟨⟨_, SqL.of h19⟩, fun D3 n3 => ?_⟩
          refine lc_list (xs := (numsP (fun l => gen l t) (xs.map (·.1))).map V.int) (fun j H' => H' D3 = some (.lst (List.replicate j (V.bl true))) ∧ ∀ c ob, H19 c = some ob → H' c = some ob) ?_ ?_ ?_ ?_
          · refine ⟨upd_same, fun c ob e => ?_⟩
            rw [upd_ne (ne_of_none e n3)]; exact e
          · rintro j H20 hj ⟨h20, k20⟩
            exact SqL.of (k20 _ _ h19)
          · rintro j y H20 gy ⟨h20, k20⟩
            rw [List.getElem?_map] at gy
            obtain ⟨num, gn, rfl⟩ := Option.map_eq_some_iff.mp gy
            have jl := (List.getElem?_eq_some_iff.mp gn).1
            refine ⟨rfl, ?_⟩
            walk_at "rd"
            refine ⟨_, h20, Nat.lt_of_le_of_lt (show _ ≤ 6 by rw [List.length_replicate]; omega) (by decide), ?_, fun c ob e => ?_⟩
            · rw [upd_same, List.replicate_succ']
            · rw [upd_ne fun z => by rw [z, n3] at e; cases e]
              exact k20 _ _ e
          · rintro H20 ⟨h20, k20⟩
            refine ⟨D3, _, rfl, .inl (SqL.of h20), rfl, (noFalse _).1, ?_⟩
            rw [show (if false = true then !inV (V.bl false) (List.replicate ((numsP (fun l => gen l t) (xs.map (·.1))).map V.int).length (V.bl true)) else inV (V.bl false) (List.replicate ((numsP (fun l => gen l t) (xs.map (·.1))).map V.int).length (V.bl true))) = false from (noFalse _).2]
            refine ⟨_, rfl, ?_⟩
            refine (if_neg Bool.false_ne_true : ite _ _ _ = _).mpr ?_
            walk_at "rd"
            exact ⟨_, _, _, _, _, rfl, (b1215.trans (but_same (fun c o e => k16 c o e))).trans (but_same ((s1618.trans s19).trans fun c o e => k20 c o e)), (st16.same ((s1618.trans s19).trans fun c o e => k20 c o e))⟩
    · rintro σ' H13 ⟨x4, x7, x10, x11, x13, rfl, b13, st13⟩
      walk_at "rd"
      exact q _

end
set_option maxHeartbeats 4000000 in
theorem all_mk {l : PySem.W.OpenLaw} {w : World} {K : PySem.W.Frag} {h : Heap} {mg : Str → Option Value} {fa : Addr} (X : K.In h) (G : h.Ns mainGlobals mg) (hfa : mg "law" = some (.ref fa))
    {c_InvalidRule c_RuleIndex : Addr}
    {f0 f1 f2 f3 f4 f5 f6 f7 f8 f9 f10 f11 f12 f13 f14 f15 f16 f17 f18 f19 f20 f21 f22 f23 f24 f25 f26 f27 f28 f29 : Addr} {od0 an0 od1 an1 od2 an2 od3 an3 od4 an4 od5 an5 od6 an6 od7 an7 od8 an8 od9 an9 od10 an10 od11 an11 od12 an12 od13 an13 od14 an14 od15 an15 od16 an16 od17 an17 od18 an18 od19 an19 od20 an20 od21 an21 od22 an22 od23 an23 od24 an24 od25 an25 od26 an26 od27 an27 od28 an28 od29 an29 : Option Addr} {sl0 sl1 sl2 sl3 sl4 sl5 sl6 sl7 sl8 sl9 sl10 sl11 sl12 sl13 sl14 sl15 sl16 sl17 sl18 sl19 sl20 sl21 sl22 sl23 sl24 sl25 sl26 sl27 sl28 sl29 : Array (Option Value)} {oc0 kV0 dc0 pm0 cd0 ct0 oc1 kV1 dc1 pm1 cd1 ct1 oc2 kV2 dc2 pm2 cd2 ct2 oc3 kV3 dc3 pm3 cd3 ct3 oc4 kV4 dc4 pm4 cd4 ct4 oc5 kV5 dc5 pm5 cd5 ct5 oc6 kV6 dc6 pm6 cd6 ct6 oc7 kV7 dc7 pm7 cd7 ct7 oc8 kV8 dc8 pm8 cd8 ct8 oc9 kV9 dc9 pm9 cd9 ct9 oc10 kV10 dc10 pm10 cd10 ct10 oc11 kV11 dc11 pm11 cd11 ct11 oc12 kV12 dc12 pm12 cd12 ct12 oc13 kV13 dc13 pm13 cd13 ct13 oc14 kV14 dc14 pm14 cd14 ct14 oc15 kV15 dc15 pm15 cd15 ct15 oc16 kV16 dc16 pm16 cd16 ct16 oc17 kV17 dc17 pm17 cd17 ct17 oc18 kV18 dc18 pm18 cd18 ct18 oc19 kV19 dc19 pm19 cd19 ct19 oc20 kV20 dc20 pm20 cd20 ct20 oc21 kV21 dc21 pm21 cd21 ct21 oc22 kV22 dc22 pm22 cd22 ct22 oc23 kV23 dc23 pm23 cd23 ct23 oc24 kV24 dc24 pm24 cd24 ct24 oc25 kV25 dc25 pm25 cd25 ct25 oc26 kV26 dc26 pm26 cd26 ct26 oc27 kV27 dc27 pm27 cd27 ct27 oc28 kV28 dc28 pm28 cd28 ct28 oc29 kV29 dc29 pm29 cd29 ct29 : Value}
    (a0 : PySem.W.nsIn K mainGlobals "_law_state" = some (some (.ref f0))) (l0 : K.lookup f0 = some ⟨oc0, od0, .func (PySem.W.fnOf "_law_state" "_law_state" (defArgs s_u_law_state) (defBody s_u_law_state) (defScope s_u_law_state) .none kV0 dc0 pm0 an0 cd0 ct0), sl0⟩) (e0 : PySem.W.codeIn K cd0 "_law_state" = true) (k0 : PySem.W.keepIn K (.ref f0) = true)
    (a1 : PySem.W.nsIn K mainGlobals "_law_mix" = some (some (.ref f1))) (l1 : K.lookup f1 = some ⟨oc1, od1, .func (PySem.W.fnOf "_law_mix" "_law_mix" (defArgs s_u_law_mix) (defBody s_u_law_mix) (defScope s_u_law_mix) .none kV1 dc1 pm1 an1 cd1 ct1), sl1⟩) (e1 : PySem.W.codeIn K cd1 "_law_mix" = true) (k1 : PySem.W.keepIn K (.ref f1) = true)
    (a2 : PySem.W.nsIn K mainGlobals "_law_number" = some (some (.ref f2))) (l2 : K.lookup f2 = some ⟨oc2, od2, .func (PySem.W.fnOf "_law_number" "_law_number" (defArgs s_u_law_number) (defBody s_u_law_number) (defScope s_u_law_number) .none kV2 dc2 pm2 an2 cd2 ct2), sl2⟩) (e2 : PySem.W.codeIn K cd2 "_law_number" = true) (k2 : PySem.W.keepIn K (.ref f2) = true)
    (a3 : PySem.W.nsIn K mainGlobals "_law_draw" = some (some (.ref f3))) (l3 : K.lookup f3 = some ⟨oc3, od3, .func (PySem.W.fnOf "_law_draw" "_law_draw" (defArgs s_u_law_draw) (defBody s_u_law_draw) (defScope s_u_law_draw) .none kV3 dc3 pm3 an3 cd3 ct3), sl3⟩) (e3 : PySem.W.codeIn K cd3 "_law_draw" = true) (k3 : PySem.W.keepIn K (.ref f3) = true)
    (a4 : PySem.W.nsIn K mainGlobals "_law_word" = some (some (.ref f4))) (l4 : K.lookup f4 = some ⟨oc4, od4, .func (PySem.W.fnOf "_law_word" "_law_word" (defArgs s_u_law_word) (defBody s_u_law_word) (defScope s_u_law_word) .none kV4 dc4 pm4 an4 cd4 ct4), sl4⟩) (e4 : PySem.W.codeIn K cd4 "_law_word" = true) (k4 : PySem.W.keepIn K (.ref f4) = true)
    (a5 : PySem.W.nsIn K mainGlobals "_law_names" = some (some (.ref f5))) (l5 : K.lookup f5 = some ⟨oc5, od5, .func (PySem.W.fnOf "_law_names" "_law_names" (defArgs s_u_law_names) (defBody s_u_law_names) (defScope s_u_law_names) .none kV5 dc5 pm5 an5 cd5 ct5), sl5⟩) (e5 : PySem.W.codeIn K cd5 "_law_names" = true) (k5 : PySem.W.keepIn K (.ref f5) = true)
    (a6 : PySem.W.nsIn K mainGlobals "_law_operations" = some (some (.ref f6))) (l6 : K.lookup f6 = some ⟨oc6, od6, .func (PySem.W.fnOf "_law_operations" "_law_operations" (defArgs s_u_law_operations) (defBody s_u_law_operations) (defScope s_u_law_operations) .none kV6 dc6 pm6 an6 cd6 ct6), sl6⟩) (e6 : PySem.W.codeIn K cd6 "_law_operations" = true) (k6 : PySem.W.keepIn K (.ref f6) = true)
    (a7 : PySem.W.nsIn K mainGlobals "_law_leaf" = some (some (.ref f7))) (l7 : K.lookup f7 = some ⟨oc7, od7, .func (PySem.W.fnOf "_law_leaf" "_law_leaf" (defArgs s_u_law_leaf) (defBody s_u_law_leaf) (defScope s_u_law_leaf) .none kV7 dc7 pm7 an7 cd7 ct7), sl7⟩) (e7 : PySem.W.codeIn K cd7 "_law_leaf" = true) (k7 : PySem.W.keepIn K (.ref f7) = true)
    (a8 : PySem.W.nsIn K mainGlobals "_law_term" = some (some (.ref f8))) (l8 : K.lookup f8 = some ⟨oc8, od8, .func (PySem.W.fnOf "_law_term" "_law_term" (defArgs s_u_law_term) (defBody s_u_law_term) (defScope s_u_law_term) .none kV8 dc8 pm8 an8 cd8 ct8), sl8⟩) (e8 : PySem.W.codeIn K cd8 "_law_term" = true) (k8 : PySem.W.keepIn K (.ref f8) = true)
    (a9 : PySem.W.nsIn K mainGlobals "_law_app" = some (some (.ref f9))) (l9 : K.lookup f9 = some ⟨oc9, od9, .func (PySem.W.fnOf "_law_app" "_law_app" (defArgs s_u_law_app) (defBody s_u_law_app) (defScope s_u_law_app) .none kV9 dc9 pm9 an9 cd9 ct9), sl9⟩) (e9 : PySem.W.codeIn K cd9 "_law_app" = true) (k9 : PySem.W.keepIn K (.ref f9) = true)
    (a10 : PySem.W.nsIn K mainGlobals "_law_variables" = some (some (.ref f10))) (l10 : K.lookup f10 = some ⟨oc10, od10, .func (PySem.W.fnOf "_law_variables" "_law_variables" (defArgs s_u_law_variables) (defBody s_u_law_variables) (defScope s_u_law_variables) .none kV10 dc10 pm10 an10 cd10 ct10), sl10⟩) (e10 : PySem.W.codeIn K cd10 "_law_variables" = true) (k10 : PySem.W.keepIn K (.ref f10) = true)
    (a11 : PySem.W.nsIn K mainGlobals "_law_substitute" = some (some (.ref f11))) (l11 : K.lookup f11 = some ⟨oc11, od11, .func (PySem.W.fnOf "_law_substitute" "_law_substitute" (defArgs s_u_law_substitute) (defBody s_u_law_substitute) (defScope s_u_law_substitute) .none kV11 dc11 pm11 an11 cd11 ct11), sl11⟩) (e11 : PySem.W.codeIn K cd11 "_law_substitute" = true) (k11 : PySem.W.keepIn K (.ref f11) = true)
    (a12 : PySem.W.nsIn K mainGlobals "_law_rule" = some (some (.ref f12))) (l12 : K.lookup f12 = some ⟨oc12, od12, .func (PySem.W.fnOf "_law_rule" "_law_rule" (defArgs s_u_law_rule) (defBody s_u_law_rule) (defScope s_u_law_rule) .none kV12 dc12 pm12 an12 cd12 ct12), sl12⟩) (e12 : PySem.W.codeIn K cd12 "_law_rule" = true) (k12 : PySem.W.keepIn K (.ref f12) = true)
    (a13 : PySem.W.nsIn K mainGlobals "symbols" = some (some (.ref f13))) (l13 : K.lookup f13 = some ⟨oc13, od13, .func (PySem.W.fnOf "symbols" "symbols" (defArgs s_symbols) (defBody s_symbols) (defScope s_symbols) .none kV13 dc13 pm13 an13 cd13 ct13), sl13⟩) (e13 : PySem.W.codeIn K cd13 "symbols" = true) (k13 : PySem.W.keepIn K (.ref f13) = true)
    (a14 : PySem.W.nsIn K mainGlobals "variables" = some (some (.ref f14))) (l14 : K.lookup f14 = some ⟨oc14, od14, .func (PySem.W.fnOf "variables" "variables" (defArgs s_variables) (defBody s_variables) (defScope s_variables) .none kV14 dc14 pm14 an14 cd14 ct14), sl14⟩) (e14 : PySem.W.codeIn K cd14 "variables" = true) (k14 : PySem.W.keepIn K (.ref f14) = true)
    (a15 : PySem.W.nsIn K mainGlobals "is_rule" = some (some (.ref f15))) (l15 : K.lookup f15 = some ⟨oc15, od15, .func (PySem.W.fnOf "is_rule" "is_rule" (defArgs s_is_rule) (defBody s_is_rule) (defScope s_is_rule) .none kV15 dc15 pm15 an15 cd15 ct15), sl15⟩) (e15 : PySem.W.codeIn K cd15 "is_rule" = true) (k15 : PySem.W.keepIn K (.ref f15) = true)
    (a16 : PySem.W.findIn K (.ref c_InvalidRule) "__init__" = some (some (.ref f16))) (t16 : PySem.W.typeIn K (.ref f16) = some (.type "function")) (l16 : K.lookup f16 = some ⟨oc16, od16, .func (PySem.W.fnOf "__init__" "InvalidRule.__init__" (defArgs s_InvalidRule___init) (defBody s_InvalidRule___init) (defScope s_InvalidRule___init) .none kV16 dc16 pm16 an16 cd16 ct16), sl16⟩) (e16 : PySem.W.codeIn K cd16 "InvalidRule.__init__" = true) (k16 : PySem.W.keepIn K (.ref f16) = true)
    (a17 : PySem.W.nsIn K mainGlobals "check_rules" = some (some (.ref f17))) (l17 : K.lookup f17 = some ⟨oc17, od17, .func (PySem.W.fnOf "check_rules" "check_rules" (defArgs s_check_rules) (defBody s_check_rules) (defScope s_check_rules) .none kV17 dc17 pm17 an17 cd17 ct17), sl17⟩) (e17 : PySem.W.codeIn K cd17 "check_rules" = true) (k17 : PySem.W.keepIn K (.ref f17) = true)
    (a18 : PySem.W.findIn K (.ref c_RuleIndex) "_branch" = some (some (.ref f18))) (t18 : PySem.W.typeIn K (.ref f18) = some (.type "function")) (l18 : K.lookup f18 = some ⟨oc18, od18, .func (PySem.W.fnOf "_branch" "RuleIndex._branch" (defArgs s_RuleIndex__branch) (defBody s_RuleIndex__branch) (defScope s_RuleIndex__branch) .none kV18 dc18 pm18 an18 cd18 ct18), sl18⟩) (e18 : PySem.W.codeIn K cd18 "RuleIndex._branch" = true) (k18 : PySem.W.keepIn K (.ref f18) = true)
    (a19 : PySem.W.findIn K (.ref c_RuleIndex) "__init__" = some (some (.ref f19))) (t19 : PySem.W.typeIn K (.ref f19) = some (.type "function")) (l19 : K.lookup f19 = some ⟨oc19, od19, .func (PySem.W.fnOf "__init__" "RuleIndex.__init__" (defArgs s_RuleIndex___init) (defBody s_RuleIndex___init) (defScope s_RuleIndex___init) .none kV19 dc19 pm19 an19 cd19 ct19), sl19⟩) (e19 : PySem.W.codeIn K cd19 "RuleIndex.__init__" = true) (k19 : PySem.W.keepIn K (.ref f19) = true)
    (a20 : PySem.W.findIn K (.ref c_RuleIndex) "candidates" = some (some (.ref f20))) (t20 : PySem.W.typeIn K (.ref f20) = some (.type "function")) (l20 : K.lookup f20 = some ⟨oc20, od20, .func (PySem.W.fnOf "candidates" "RuleIndex.candidates" (defArgs s_RuleIndex_candidates) (defBody s_RuleIndex_candidates) (defScope s_RuleIndex_candidates) .none kV20 dc20 pm20 an20 cd20 ct20), sl20⟩) (e20 : PySem.W.codeIn K cd20 "RuleIndex.candidates" = true) (k20 : PySem.W.keepIn K (.ref f20) = true)
    (a21 : PySem.W.nsIn K mainGlobals "_law_refused" = some (some (.ref f21))) (l21 : K.lookup f21 = some ⟨oc21, od21, .func (PySem.W.fnOf "_law_refused" "_law_refused" (defArgs s_u_law_refused) (defBody s_u_law_refused) (defScope s_u_law_refused) .none kV21 dc21 pm21 an21 cd21 ct21), sl21⟩) (e21 : PySem.W.codeIn K cd21 "_law_refused" = true) (k21 : PySem.W.keepIn K (.ref f21) = true)
    (a22 : PySem.W.nsIn K mainGlobals "_law_positions" = some (some (.ref f22))) (l22 : K.lookup f22 = some ⟨oc22, od22, .func (PySem.W.fnOf "_law_positions" "_law_positions" (defArgs s_u_law_positions) (defBody s_u_law_positions) (defScope s_u_law_positions) .none kV22 dc22 pm22 an22 cd22 ct22), sl22⟩) (e22 : PySem.W.codeIn K cd22 "_law_positions" = true) (k22 : PySem.W.keepIn K (.ref f22) = true)
    (a23 : PySem.W.nsIn K mainGlobals "_law_replace" = some (some (.ref f23))) (l23 : K.lookup f23 = some ⟨oc23, od23, .func (PySem.W.fnOf "_law_replace" "_law_replace" (defArgs s_u_law_replace) (defBody s_u_law_replace) (defScope s_u_law_replace) .none kV23 dc23 pm23 an23 cd23 ct23), sl23⟩) (e23 : PySem.W.codeIn K cd23 "_law_replace" = true) (k23 : PySem.W.keepIn K (.ref f23) = true)
    (a24 : PySem.W.nsIn K mainGlobals "_law_short_values" = some (some (.ref f24))) (l24 : K.lookup f24 = some ⟨oc24, od24, .func (PySem.W.fnOf "_law_short_values" "_law_short_values" (defArgs s_u_law_short_values) (defBody s_u_law_short_values) (defScope s_u_law_short_values) .none kV24 dc24 pm24 an24 cd24 ct24), sl24⟩) (e24 : PySem.W.codeIn K cd24 "_law_short_values" = true) (k24 : PySem.W.keepIn K (.ref f24) = true)
    (a25 : PySem.W.nsIn K mainGlobals "_law_reducible" = some (some (.ref f25))) (l25 : K.lookup f25 = some ⟨oc25, od25, .func (PySem.W.fnOf "_law_reducible" "_law_reducible" (defArgs s_u_law_reducible) (defBody s_u_law_reducible) (defScope s_u_law_reducible) .none kV25 dc25 pm25 an25 cd25 ct25), sl25⟩) (e25 : PySem.W.codeIn K cd25 "_law_reducible" = true) (k25 : PySem.W.keepIn K (.ref f25) = true)
    (a26 : PySem.W.nsIn K mainGlobals "_law_spoilt" = some (some (.ref f26))) (l26 : K.lookup f26 = some ⟨oc26, od26, .func (PySem.W.fnOf "_law_spoilt" "_law_spoilt" (defArgs s_u_law_spoilt) (defBody s_u_law_spoilt) (defScope s_u_law_spoilt) .none kV26 dc26 pm26 an26 cd26 ct26), sl26⟩) (e26 : PySem.W.codeIn K cd26 "_law_spoilt" = true) (k26 : PySem.W.keepIn K (.ref f26) = true)
    (a27 : PySem.W.nsIn K mainGlobals "_law_fits" = some (some (.ref f27))) (l27 : K.lookup f27 = some ⟨oc27, od27, .func (PySem.W.fnOf "_law_fits" "_law_fits" (defArgs s_u_law_fits) (defBody s_u_law_fits) (defScope s_u_law_fits) .none kV27 dc27 pm27 an27 cd27 ct27), sl27⟩) (e27 : PySem.W.codeIn K cd27 "_law_fits" = true) (k27 : PySem.W.keepIn K (.ref f27) = true)
    (a28 : PySem.W.nsIn K mainGlobals "_law_is_integer" = some (some (.ref f28))) (l28 : K.lookup f28 = some ⟨oc28, od28, .func (PySem.W.fnOf "_law_is_integer" "_law_is_integer" (defArgs s_u_law_is_integer) (defBody s_u_law_is_integer) (defScope s_u_law_is_integer) .none kV28 dc28 pm28 an28 cd28 ct28), sl28⟩) (e28 : PySem.W.codeIn K cd28 "_law_is_integer" = true) (k28 : PySem.W.keepIn K (.ref f28) = true)
    (a29 : PySem.W.nsIn K mainGlobals "law" = some (some (.ref f29))) (l29 : K.lookup f29 = some ⟨oc29, od29, .func (PySem.W.fnOf "law" "law" (defArgs s_law) (defBody s_law) (defScope s_law) .none kV29 dc29 pm29 an29 cd29 ct29), sl29⟩) (e29 : PySem.W.codeIn K cd29 "law" = true) (k29 : PySem.W.keepIn K (.ref f29) = true)
    (z_all : PySem.W.nsIn K mainGlobals "all" = some none)
    (z_bool : PySem.W.nsIn K mainGlobals "bool" = some none)
    (z_enumerate : PySem.W.nsIn K mainGlobals "enumerate" = some none)
    (z_int : PySem.W.nsIn K mainGlobals "int" = some none)
    (z_isinstance : PySem.W.nsIn K mainGlobals "isinstance" = some none)
    (z_len : PySem.W.nsIn K mainGlobals "len" = some none)
    (z_list : PySem.W.nsIn K mainGlobals "list" = some none)
    (z_range : PySem.W.nsIn K mainGlobals "range" = some none)
    (z_sorted : PySem.W.nsIn K mainGlobals "sorted" = some none)
    (z_tuple : PySem.W.nsIn K mainGlobals "tuple" = some none)
    (xo_InvalidRule : K.lookup c_InvalidRule = some (excClassObj nm_InvalidRule q_InvalidRule c_InvalidRule N_InvalidRule bs_InvalidRule bm_InvalidRule true sn_InvalidRule sub_InvalidRule ab_InvalidRule col_InvalidRule dd_InvalidRule k0_InvalidRule k1_InvalidRule k2_InvalidRule k3_InvalidRule k5_InvalidRule "ValueError.__new__")) (xr_InvalidRule : PySem.HandSPX.refsVE bm_InvalidRule = true) (xsa_InvalidRule : PySem.W.findIn K (.ref c_InvalidRule) "__setattr__" = some (some (.builtin "object.__setattr__")))
    (xa_InvalidRule : PySem.W.nsIn K mainGlobals "InvalidRule" = some (some (.ref c_InvalidRule)))
    (xk_InvalidRule : PySem.W.keepIn K (.ref c_InvalidRule) = true)
    (xb_InvalidRule : PySem.W.subIn K (.ref c_InvalidRule) (.type "BaseException") = some true)
    (xt_InvalidRule : PySem.W.typeIn K (.ref c_InvalidRule) = some (.type "type"))
    (xs_InvalidRule : PySem.W.subIn K (.ref c_InvalidRule) (.ref c_InvalidRule) = some true)
    (xhg_InvalidRule : PySem.W.findIn K (.ref c_InvalidRule) "__getattribute__" = some (some (.builtin "BaseException.__getattribute__")))
    (xhk_InvalidRule : PySem.W.findIn K (.ref c_InvalidRule) "__getattr__" = some none)
    (xhd_InvalidRule : PySem.W.hasDictIn K c_InvalidRule = true)
    (xha_InvalidRule : PySem.W.findIn K (.ref c_InvalidRule) "__class__" = some (some (.builtin "object.__class__")))
    (xhn_InvalidRule : PySem.W.specialIn K (.builtin "object.__class__") "__get__" = some (some (.builtin "getset_descriptor.__get__")))
    (xht_InvalidRule : PySem.W.takesIn K (.builtin "object.__class__") = some true)
    (xhm_InvalidRule : PySem.W.mroIn K c_InvalidRule (.type "object") = some true)
    (xa_RuleIndex : PySem.W.nsIn K mainGlobals "RuleIndex" = some (some (.ref c_RuleIndex)))
    (xpg_RuleIndex : PySem.W.plainGet K c_RuleIndex Str.empty = true)
    (xhd_RuleIndex : PySem.W.hasDictIn K c_RuleIndex = true)
    (xpo_RuleIndex : PySem.W.plainOver K c_RuleIndex = true)
    (xsa_RuleIndex : PySem.W.findIn K (.ref c_RuleIndex) "__setattr__" = some (some (.builtin "object.__setattr__")))
    (xmk_RuleIndex : PySem.W.makesIn K c_RuleIndex = true)
    (xkc_RuleIndex : PySem.W.keepIn K (.ref c_RuleIndex) = true)
    (xN_RuleIndex__branches : PySem.W.findIn K (.ref c_RuleIndex) "_branches" = some none)
    (xN_RuleIndex__ends : PySem.W.findIn K (.ref c_RuleIndex) "_ends" = some none)
    (i18 : PySem.W.isFn K (.ref f18) = true)
    (i19 : PySem.W.isFn K (.ref f19) = true)
    (i20 : PySem.W.isFn K (.ref f20) = true)
    (ff_nf_index : PySem.W.findIn K (.ref c_InvalidRule) "index" = some none)
    : ∃ fd : FuncData, (∀ (s : Shared) (v : Value), BindsTo s fd ⟨[v], []⟩ [("script", v)]) ∧ ∀ base : Heap, K.In base → base.Ns mainGlobals mg → FnOk l.prog w K mg base CX0 80 fa fd ["script"] (sp_law K) := by
  have e := hfa.symm.trans (PySem.W.mg_of X G a29)
  cases e
  have F0 := fun_mk (st := s_u_law_state) l0 e0 k0
  have b0 := F0.binds (ps := ["script"]) fun _ _ _ _ _ _ us hl => match us, hl with | [_], _ => rfl
  have F1 := fun_mk (st := s_u_law_mix) l1 e1 k1
  have b1 := F1.binds (ps := ["cell"]) fun _ _ _ _ _ _ us hl => match us, hl with | [_], _ => rfl
  have F2 := fun_mk (st := s_u_law_number) l2 e2 k2
  have b2 := F2.binds (ps := ["cell"]) fun _ _ _ _ _ _ us hl => match us, hl with | [_], _ => rfl
  have F3 := fun_mk (st := s_u_law_draw) l3 e3 k3
  have b3 := F3.binds (ps := ["state", "many"]) fun _ _ _ _ _ _ us hl => match us, hl with | [_, _], _ => rfl
  have F4 := fun_mk (st := s_u_law_word) l4 e4 k4
  have b4 := F4.binds (ps := ["state", "size"]) fun _ _ _ _ _ _ us hl => match us, hl with | [_, _], _ => rfl
  have F5 := fun_mk (st := s_u_law_names) l5 e5 k5
  have b5 := F5.binds (ps := ["state", "count"]) fun _ _ _ _ _ _ us hl => match us, hl with | [_, _], _ => rfl
  have F6 := fun_mk (st := s_u_law_operations) l6 e6 k6
  have b6 := F6.binds (ps := ["state"]) fun _ _ _ _ _ _ us hl => match us, hl with | [_], _ => rfl
  have F7 := fun_mk (st := s_u_law_leaf) l7 e7 k7
  have b7 := F7.binds (ps := ["state", "operations", "count"]) fun _ _ _ _ _ _ us hl => match us, hl with | [_, _, _], _ => rfl
  have F8 := fun_mk (st := s_u_law_term) l8 e8 k8
  have b8 := F8.binds (ps := ["state", "operations", "count", "height"]) fun _ _ _ _ _ _ us hl => match us, hl with | [_, _, _, _], _ => rfl
  have F9 := fun_mk (st := s_u_law_app) l9 e9 k9
  have b9 := F9.binds (ps := ["state", "operations", "count", "height"]) fun _ _ _ _ _ _ us hl => match us, hl with | [_, _, _, _], _ => rfl
  have F10 := fun_mk (st := s_u_law_variables) l10 e10 k10
  have b10 := F10.binds (ps := ["term"]) fun _ _ _ _ _ _ us hl => match us, hl with | [_], _ => rfl
  have F11 := fun_mk (st := s_u_law_substitute) l11 e11 k11
  have b11 := F11.binds (ps := ["term", "substitution"]) fun _ _ _ _ _ _ us hl => match us, hl with | [_, _], _ => rfl
  have F12 := fun_mk (st := s_u_law_rule) l12 e12 k12
  have b12 := F12.binds (ps := ["state", "operations", "count", "height"]) fun _ _ _ _ _ _ us hl => match us, hl with | [_, _, _, _], _ => rfl
  have F13 := fun_mk (st := s_symbols) l13 e13 k13
  have b13 := F13.binds (ps := ["term"]) fun _ _ _ _ _ _ us hl => match us, hl with | [_], _ => rfl
  have F14 := fun_mk (st := s_variables) l14 e14 k14
  have b14 := F14.binds (ps := ["term"]) fun _ _ _ _ _ _ us hl => match us, hl with | [_], _ => rfl
  have F15 := fun_mk (st := s_is_rule) l15 e15 k15
  have b15 := F15.binds (ps := ["left", "right"]) fun _ _ _ _ _ _ us hl => match us, hl with | [_, _], _ => rfl
  have F16 := fun_mk (st := s_InvalidRule___init) l16 e16 k16
  have b16 := F16.binds (ps := ["self", "index"]) fun _ _ _ _ _ _ us hl => match us, hl with | [_, _], _ => rfl
  have F17 := fun_mk (st := s_check_rules) l17 e17 k17
  have b17 := F17.binds (ps := ["rules"]) fun _ _ _ _ _ _ us hl => match us, hl with | [_], _ => rfl
  have F18 := fun_mk (st := s_RuleIndex__branch) l18 e18 k18
  have b18 := F18.binds (ps := ["self", "left"]) fun _ _ _ _ _ _ us hl => match us, hl with | [_, _], _ => rfl
  have F19 := fun_mk (st := s_RuleIndex___init) l19 e19 k19
  have b19 := F19.binds (ps := ["self", "rules"]) fun _ _ _ _ _ _ us hl => match us, hl with | [_, _], _ => rfl
  have F20 := fun_mk (st := s_RuleIndex_candidates) l20 e20 k20
  have b20 := F20.binds (ps := ["self", "term"]) fun _ _ _ _ _ _ us hl => match us, hl with | [_, _], _ => rfl
  have F21 := fun_mk (st := s_u_law_refused) l21 e21 k21
  have b21 := F21.binds (ps := ["rules"]) fun _ _ _ _ _ _ us hl => match us, hl with | [_], _ => rfl
  have F22 := fun_mk (st := s_u_law_positions) l22 e22 k22
  have b22 := F22.binds (ps := ["term"]) fun _ _ _ _ _ _ us hl => match us, hl with | [_], _ => rfl
  have F23 := fun_mk (st := s_u_law_replace) l23 e23 k23
  have b23 := F23.binds (ps := ["term", "position", "new"]) fun _ _ _ _ _ _ us hl => match us, hl with | [_, _, _], _ => rfl
  have F24 := fun_mk (st := s_u_law_short_values) l24 e24 k24
  have b24 := F24.binds (ps := ["state", "operations"]) fun _ _ _ _ _ _ us hl => match us, hl with | [_, _], _ => rfl
  have F25 := fun_mk (st := s_u_law_reducible) l25 e25 k25
  have b25 := F25.binds (ps := ["state", "operations", "rules"]) fun _ _ _ _ _ _ us hl => match us, hl with | [_, _, _], _ => rfl
  have F26 := fun_mk (st := s_u_law_spoilt) l26 e26 k26
  have b26 := F26.binds (ps := ["state", "operations", "count", "term"]) fun _ _ _ _ _ _ us hl => match us, hl with | [_, _, _, _], _ => rfl
  have F27 := fun_mk (st := s_u_law_fits) l27 e27 k27
  have b27 := F27.binds (ps := ["left", "term"]) fun _ _ _ _ _ _ us hl => match us, hl with | [_, _], _ => rfl
  have F28 := fun_mk (st := s_u_law_is_integer) l28 e28 k28
  have b28 := F28.binds (ps := ["actual"]) fun _ _ _ _ _ _ us hl => match us, hl with | [_], _ => rfl
  have F29 := fun_mk (st := s_law) l29 e29 k29
  have b29 := F29.binds (ps := ["script"]) fun _ _ _ _ _ _ us hl => match us, hl with | [_], _ => rfl
  have T : Tx K mg ⟨f0, _, f1, _, f2, _, f3, _, f4, _, f5, _, f6, _, f7, _, f8, _, f9, _, f10, _, f11, _, f12, _, f13, _, f14, _, f15, _, f16, _, f17, _, f18, _, f19, _, f20, _, f21, _, f22, _, f23, _, f24, _, f25, _, f26, _, f27, _, f28, _, fa, _, c_InvalidRule, c_RuleIndex⟩ := ⟨F0, b0, PySem.W.mg_of X G a0, F1, b1, PySem.W.mg_of X G a1, F2, b2, PySem.W.mg_of X G a2, F3, b3, PySem.W.mg_of X G a3, F4, b4, PySem.W.mg_of X G a4, F5, b5, PySem.W.mg_of X G a5, F6, b6, PySem.W.mg_of X G a6, F7, b7, PySem.W.mg_of X G a7, F8, b8, PySem.W.mg_of X G a8, F9, b9, PySem.W.mg_of X G a9, F10, b10, PySem.W.mg_of X G a10, F11, b11, PySem.W.mg_of X G a11, F12, b12, PySem.W.mg_of X G a12, F13, b13, PySem.W.mg_of X G a13, F14, b14, PySem.W.mg_of X G a14, F15, b15, PySem.W.mg_of X G a15, F16, b16, F17, b17, PySem.W.mg_of X G a17, F18, b18, F19, b19, F20, b20, F21, b21, PySem.W.mg_of X G a21, F22, b22, PySem.W.mg_of X G a22, F23, b23, PySem.W.mg_of X G a23, F24, b24, PySem.W.mg_of X G a24, F25, b25, PySem.W.mg_of X G a25, F26, b26, PySem.W.mg_of X G a26, F27, b27, PySem.W.mg_of X G a27, F28, b28, PySem.W.mg_of X G a28, F29, b29, PySem.W.mg_of X G a29, PySem.W.mg_none_of X G z_all, PySem.W.mg_none_of X G z_bool, PySem.W.mg_none_of X G z_enumerate, PySem.W.mg_none_of X G z_int, PySem.W.mg_none_of X G z_isinstance, PySem.W.mg_none_of X G z_len, PySem.W.mg_none_of X G z_list, PySem.W.mg_none_of X G z_range, PySem.W.mg_none_of X G z_sorted, PySem.W.mg_none_of X G z_tuple, erri_mk X G xa_InvalidRule xk_InvalidRule ⟨_, _, _, _, _, _, _, _, _, _, _, _, _, _, _, xo_InvalidRule, xr_InvalidRule⟩ xsa_InvalidRule xb_InvalidRule xt_InvalidRule xs_InvalidRule xhg_InvalidRule xhk_InvalidRule xhd_InvalidRule xha_InvalidRule xhn_InvalidRule xht_InvalidRule xhm_InvalidRule a16 t16, ⟨xpg_RuleIndex, xhd_RuleIndex, xpo_RuleIndex, xsa_RuleIndex⟩, ⟨xmk_RuleIndex, a19, i19, xkc_RuleIndex⟩, PySem.W.mg_of X G xa_RuleIndex, xN_RuleIndex__branches, xN_RuleIndex__ends, ⟨a18, i18, k18⟩, ⟨a20, i20, k20⟩, ff_nf_index⟩
  refine ⟨PySem.W.fnOf "law" "law" (defArgs s_law) (defBody s_law) (defScope s_law) .none kV29 dc29 pm29 an29 cd29 ct29, fun s v => .of_eq rfl, fun base _ _ => ?_⟩
  exact ok_law (P := l.prog) (w := w) (base := base) T
theorem walk {l : PySem.W.OpenLaw} {q : Program} {loose : List Str} {XP : (Str → Option Value) → Heap → Prop} {YP : World → Heap → Prop} {d : DefRec} {K : Params → PySem.W.Frag} (hn : l.most = some 63) (hdf : d.params.defaults = [])
    (hY : ∀ (w : World) (h : Heap), YP w h → (K w.params).In h)
    (F : ∀ (w : World) (mg : Str → Option Value) (fa : Addr) (h : Heap), (K w.params).In h → h.Ns mainGlobals mg → mg d.name = some (.ref fa) →
      ∃ fd : FuncData, (∀ (s : Shared) (u : Value), BindsTo s fd ⟨[u], []⟩ [("script", u)]) ∧ ∀ base : Heap, (K w.params).In base → base.Ns mainGlobals mg → FnOk l.prog w (K w.params) mg base CX0 80 fa fd ["script"] (sp_law (K w.params))) :
    PySem.W.WalkO q loose XP YP l.row.toRowW d [] (fun f vs => PySem.call f vs) :=
  L2.walk_of (n := 63) (k := 80) (x := "script") (CX := fun _ => CX0) (sp := fun w => sp_law (K w.params)) hn (by decide) hdf ⟨rfl, by decide, by decide⟩ hY F (fun _ _ a ns hl _ hS => ⟨a, ns, rfl, hS, hl, fun _ => rfl⟩) fun _ _ _ _ _ z => z
end Lw
open PySem PySem.W PyProof.Rows
set_option maxRecDepth 100000 in
set_option maxHeartbeats 0 in
theorem PySem.Challenge.cw_joinedends_k44_rule_index_holds : PySem.Challenge.rw_joinedends_k44_rule_index.Holds := by
  w_on; o_law; k_head; (case hw => w_witness2)
  k_fill
  refine Lw.walk (l := PySem.Challenge.rw_joinedends_k44_rule_index) rfl rfl (fun w h Y => PySem.W.kIn_of Y) ?F
  case F =>
    intro w mg fa h KX G hmg
    refine' Lw.all_mk KX G hmg ?a0 ?l0 ?e0 ?k0 ?a1 ?l1 ?e1 ?k1 ?a2 ?l2 ?e2 ?k2 ?a3 ?l3 ?e3 ?k3 ?a4 ?l4 ?e4 ?k4 ?a5 ?l5 ?e5 ?k5 ?a6 ?l6 ?e6 ?k6 ?a7 ?l7 ?e7 ?k7 ?a8 ?l8 ?e8 ?k8 ?a9 ?l9 ?e9 ?k9 ?a10 ?l10 ?e10 ?k10 ?a11 ?l11 ?e11 ?k11 ?a12 ?l12 ?e12 ?k12 ?a13 ?l13 ?e13 ?k13 ?a14 ?l14 ?e14 ?k14 ?a15 ?l15 ?e15 ?k15 ?a16 ?t16 ?l16 ?e16 ?k16 ?a17 ?l17 ?e17 ?k17 ?a18 ?t18 ?l18 ?e18 ?k18 ?a19 ?t19 ?l19 ?e19 ?k19 ?a20 ?t20 ?l20 ?e20 ?k20 ?a21 ?l21 ?e21 ?k21 ?a22 ?l22 ?e22 ?k22 ?a23 ?l23 ?e23 ?k23 ?a24 ?l24 ?e24 ?k24 ?a25 ?l25 ?e25 ?k25 ?a26 ?l26 ?e26 ?k26 ?a27 ?l27 ?e27 ?k27 ?a28 ?l28 ?e28 ?k28 ?a29 ?l29 ?e29 ?k29 ?z_all ?z_bool ?z_enumerate ?z_int ?z_isinstance ?z_len ?z_list ?z_range ?z_sorted ?z_tuple ?xo_InvalidRule ?xr_InvalidRule ?xsa_InvalidRule ?xa_InvalidRule ?xk_InvalidRule ?xb_InvalidRule ?xt_InvalidRule ?xs_InvalidRule ?xhg_InvalidRule ?xhk_InvalidRule ?xhd_InvalidRule ?xha_InvalidRule ?xhn_InvalidRule ?xht_InvalidRule ?xhm_InvalidRule ?xa_RuleIndex ?xpg_RuleIndex ?xhd_RuleIndex ?xpo_RuleIndex ?xsa_RuleIndex ?xmk_RuleIndex ?xkc_RuleIndex ?xN_RuleIndex__branches ?xN_RuleIndex__ends ?i18 ?i19 ?i20 ?ff_nf_index
    (case xa_InvalidRule => k_is)
    (case xa_RuleIndex => k_is)
    (case a0 => k_is)
    (case l0 => k_is)
    (case e0 => k_is)
    (case k0 => k_is)
    (case a1 => k_is)
    (case l1 => k_is)
    (case e1 => k_is)
    (case k1 => k_is)
    (case a2 => k_is)
    (case l2 => k_is)
    (case e2 => k_is)
    (case k2 => k_is)
    (case a3 => k_is)
    (case l3 => k_is)
    (case e3 => k_is)
    (case k3 => k_is)
    (case a4 => k_is)
    (case l4 => k_is)
    (case e4 => k_is)
    (case k4 => k_is)
    (case a5 => k_is)
    (case l5 => k_is)
    (case e5 => k_is)
    (case k5 => k_is)
    (case a6 => k_is)
    (case l6 => k_is)
    (case e6 => k_is)
    (case k6 => k_is)
    (case a7 => k_is)
    (case l7 => k_is)
    (case e7 => k_is)
    (case k7 => k_is)
    (case a8 => k_is)
    (case l8 => k_is)
    (case e8 => k_is)
    (case k8 => k_is)
    (case a9 => k_is)
    (case l9 => k_is)
    (case e9 => k_is)
    (case k9 => k_is)
    (case a10 => k_is)
    (case l10 => k_is)
    (case e10 => k_is)
    (case k10 => k_is)
    (case a11 => k_is)
    (case l11 => k_is)
    (case e11 => k_is)
    (case k11 => k_is)
    (case a12 => k_is)
    (case l12 => k_is)
    (case e12 => k_is)
    (case k12 => k_is)
    (case a13 => k_is)
    (case l13 => k_is)
    (case e13 => k_is)
    (case k13 => k_is)
    (case a14 => k_is)
    (case l14 => k_is)
    (case e14 => k_is)
    (case k14 => k_is)
    (case a15 => k_is)
    (case l15 => k_is)
    (case e15 => k_is)
    (case k15 => k_is)
    (case a16 => k_is)
    (case t16 => k_is)
    (case l16 => k_is)
    (case e16 => k_is)
    (case k16 => k_is)
    (case a17 => k_is)
    (case l17 => k_is)
    (case e17 => k_is)
    (case k17 => k_is)
    (case a18 => k_is)
    (case t18 => k_is)
    (case l18 => k_is)
    (case e18 => k_is)
    (case k18 => k_is)
    (case a19 => k_is)
    (case t19 => k_is)
    (case l19 => k_is)
    (case e19 => k_is)
    (case k19 => k_is)
    (case a20 => k_is)
    (case t20 => k_is)
    (case l20 => k_is)
    (case e20 => k_is)
    (case k20 => k_is)
    (case a21 => k_is)
    (case l21 => k_is)
    (case e21 => k_is)
    (case k21 => k_is)
    (case a22 => k_is)
    (case l22 => k_is)
    (case e22 => k_is)
    (case k22 => k_is)
    (case a23 => k_is)
    (case l23 => k_is)
    (case e23 => k_is)
    (case k23 => k_is)
    (case a24 => k_is)
    (case l24 => k_is)
    (case e24 => k_is)
    (case k24 => k_is)
    (case a25 => k_is)
    (case l25 => k_is)
    (case e25 => k_is)
    (case k25 => k_is)
    (case a26 => k_is)
    (case l26 => k_is)
    (case e26 => k_is)
    (case k26 => k_is)
    (case a27 => k_is)
    (case l27 => k_is)
    (case e27 => k_is)
    (case k27 => k_is)
    (case a28 => k_is)
    (case l28 => k_is)
    (case e28 => k_is)
    (case k28 => k_is)
    (case a29 => k_is)
    (case l29 => k_is)
    (case e29 => k_is)
    (case k29 => k_is)
    (case z_all => k_is)
    (case z_bool => k_is)
    (case z_enumerate => k_is)
    (case z_int => k_is)
    (case z_isinstance => k_is)
    (case z_len => k_is)
    (case z_list => k_is)
    (case z_range => k_is)
    (case z_sorted => k_is)
    (case z_tuple => k_is)
    (case xo_InvalidRule => k_is)
    (case xr_InvalidRule => first | rfl | k_is)
    (case xsa_InvalidRule => k_is)
    (case xk_InvalidRule => k_is)
    (case xb_InvalidRule => k_is)
    (case xt_InvalidRule => k_is)
    (case xs_InvalidRule => first | rfl | k_is)
    (case xhg_InvalidRule => k_is)
    (case xhk_InvalidRule => k_is)
    (case xhd_InvalidRule => k_is)
    (case xha_InvalidRule => k_is)
    (case xhn_InvalidRule => k_is)
    (case xht_InvalidRule => k_is)
    (case xhm_InvalidRule => k_is)
    (case xpg_RuleIndex => k_is)
    (case xhd_RuleIndex => k_is)
    (case xpo_RuleIndex => k_is)
    (case xsa_RuleIndex => k_is)
    (case xmk_RuleIndex => k_is)
    (case xkc_RuleIndex => k_is)
    (case xN_RuleIndex__branches => k_is)
    (case xN_RuleIndex__ends => k_is)
    (case i18 => k_is)
    (case i19 => k_is)
    (case i20 => k_is)
    (case ff_nf_index => first | rfl | k_is)
#print axioms PySem.Challenge.cw_joinedends_k44_rule_index_holds
