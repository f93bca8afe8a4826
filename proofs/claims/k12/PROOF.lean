import PyProof.Rows.All
import Wide.All
import OpenK.AllK
import Wide.FinOn
import HandS.ForMost
import HandS.IsInst
import HandS.FStr
import HandS.ExcInit
import HandS.ExcField
import KE.KExcIs
import HandS.Walk
import HandS.Style
import HandS.Text
import HandS.ForExc
import HandS.ExcIs
import HandS.TryOnly
import HandS.Iter
import HandS.TupAny
import PyProof.ReprRoads
import HandS.Dict
import HandS.Words
import HandS.Ends
import PyProof.ReprLen
import PyProof.StrLawsRepr
import KE.DataCmp
import KE.KDictItemsList
import KE.KDictZip
import HandS.Zip0
import HandS.Zip
import HandS.ListItems
import HandS.ExcCtx
import HandS.HotCalls
import HandS.ExcInitHot
import HandS.ExcOwn
import PySem.Challenge.RW_joinedends_k12_malformed_texts
set_option Elab.async false
set_option maxRecDepth 100000
/-! ### terms, and what a heap says of them -/
namespace J
open PySem L2

/-- a term of the document -/
inductive Tm where
  | var (n : Int)
  | app (f : Str) (ts : List Tm)

mutual
def Tm.sz : Tm → Nat
  | .var _ => 1
  | .app _ ts => 1 + Tm.szs ts
def Tm.szs : List Tm → Nat
  | [] => 0
  | t :: ts => Tm.sz t + Tm.szs ts
end
mutual
def Tm.dep : Tm → Nat
  | .var _ => 1
  | .app _ ts => 1 + Tm.deps ts
def Tm.deps : List Tm → Nat
  | [] => 0
  | t :: ts => max (Tm.dep t) (Tm.deps ts)
end
mutual
/-- t stands in H as the value v -/
def TmIn (H : Hp) : Tm → V → Prop
  | .var n, v => v = .int n
  | .app f ts, v => ∃ a vs, v = .ref a ∧ H a = some (.tup (.str f :: vs)) ∧ TmsIn H ts vs
def TmsIn (H : Hp) : List Tm → List V → Prop
  | [], vs => vs = []
  | t :: ts, vs => ∃ v r, vs = v :: r ∧ TmIn H t v ∧ TmsIn H ts r
end
/-- the arity of the k-th drawn operation -/
def ar (k : Nat) : Nat := if k < 2 then 0 else k - 1
mutual
/-- variables below B, applications of the named operations -/
def Tm.wf (fs : List Str) (B : Int) : Tm → Prop
  | .var n => 0 ≤ n ∧ n < B
  | .app f ts => (∃ k, fs[k]? = some f ∧ ts.length = ar k) ∧ Tm.wfs fs B ts
def Tm.wfs (fs : List Str) (B : Int) : List Tm → Prop
  | [] => True
  | t :: ts => Tm.wf fs B t ∧ Tm.wfs fs B ts
end

/-- induction over terms -/
theorem Tm.ind {P : Tm → Prop} (hv : ∀ n, P (.var n)) (ha : ∀ f ts, (∀ t ∈ ts, P t) → P (.app f ts)) : ∀ t, P t
  | .var n => hv n
  | .app f ts => ha f ts (go ts)
where go : ∀ ts : List Tm, ∀ t ∈ ts, P t
  | [], _, h => nomatch h
  | u :: us, t, h => by
    rcases List.mem_cons.mp h with e | h
    · rw [e]; exact Tm.ind hv ha u
    · exact go us t h

theorem Tm.sz_pos : ∀ t : Tm, 1 ≤ t.sz
  | .var _ => Nat.le_refl _
  | .app _ _ => by show 1 ≤ 1 + _; omega
theorem Tm.dep_pos : ∀ t : Tm, 1 ≤ t.dep
  | .var _ => Nat.le_refl _
  | .app _ _ => by show 1 ≤ 1 + _; omega
theorem Tm.dep_of_mem : ∀ {ts : List Tm} {t : Tm}, t ∈ ts → t.dep ≤ Tm.deps ts
  | u :: us, t, h => by
    show t.dep ≤ max u.dep (Tm.deps us)
    rcases List.mem_cons.mp h with e | h
    · rw [e]; omega
    · have := Tm.dep_of_mem h; omega
theorem Tm.deps_le : ∀ {ts : List Tm} {n : Nat}, (∀ t ∈ ts, t.dep ≤ n) → Tm.deps ts ≤ n
  | [], _, _ => Nat.zero_le _
  | u :: us, n, h => by
    have h1 := h u (List.mem_cons_self ..)
    have h2 := Tm.deps_le (ts := us) fun t m => h t (List.mem_cons_of_mem _ m)
    show max u.dep (Tm.deps us) ≤ n
    omega
theorem Tm.szs_le : ∀ {ts : List Tm} {M : Nat}, (∀ t ∈ ts, 2 * t.sz + 1 ≤ M) → 2 * Tm.szs ts + ts.length ≤ ts.length * M
  | [], _, _ => by show 2 * 0 + 0 ≤ _; omega
  | u :: us, M, h => by
    have h1 := h u (List.mem_cons_self ..)
    have h2 := Tm.szs_le (ts := us) (M := M) fun t m => h t (List.mem_cons_of_mem _ m)
    show 2 * (u.sz + Tm.szs us) + (us.length + 1) ≤ (us.length + 1) * M
    rw [Nat.add_mul, Nat.one_mul]
    omega
theorem Tm.szs_three {ts : List Tm} {h : Nat} (hl : ts.length ≤ 3) (hw : ∀ t ∈ ts, 2 * t.sz + 1 ≤ 3 ^ h) : 2 * (1 + Tm.szs ts) + 1 ≤ 3 ^ (h + 1) := by
  have h1 := Tm.szs_le hw
  have h3 : 1 ≤ 3 ^ h := Nat.pow_pos (by decide)
  have h2 : 3 ^ (h + 1) = 3 ^ h * 3 := rfl
  generalize 3 ^ h = M at *
  rw [h2]
  match e : ts.length, hl with
  | 0, _ => rw [e] at h1; omega
  | 1, _ => rw [e] at h1; omega
  | 2, _ => rw [e] at h1; omega
  | 3, _ => rw [e] at h1; omega
theorem Tm.wf_of_mem {fs : List Str} {B : Int} : ∀ {ts : List Tm} {t : Tm}, Tm.wfs fs B ts → t ∈ ts → t.wf fs B
  | u :: us, t, w, h => by
    have w : u.wf fs B ∧ Tm.wfs fs B us := w
    rcases List.mem_cons.mp h with e | h
    · rw [e]; exact w.1
    · exact Tm.wf_of_mem w.2 h
theorem Tm.wfs_of {fs : List Str} {B : Int} : ∀ {ts : List Tm}, (∀ t ∈ ts, t.wf fs B) → Tm.wfs fs B ts
  | [], _ => True.intro
  | u :: us, h => ⟨h u (List.mem_cons_self ..), Tm.wfs_of fun t m => h t (List.mem_cons_of_mem _ m)⟩

/-- a tuple that is known stays known -/
def Tu (H H' : Hp) : Prop := ∀ a xs, H a = some (.tup xs) → H' a = some (.tup xs)
theorem Tu.refl (H : Hp) : Tu H H := fun _ _ h => h
theorem Tu.trans {H H1 H2 : Hp} (a : Tu H H1) (b : Tu H1 H2) : Tu H H2 := fun x y h => b x y (a x y h)
theorem tu_same {H H' : Hp} (s : Same H H') : Tu H H' := fun a _ h => s a _ h
theorem tu_upd {H : Hp} {p : Addr} {o : HO} (h : ∀ xs, H p ≠ some (.tup xs)) : Tu H (upd H p o) := fun a xs e => by
  have ne : a ≠ p := fun z => by subst z; exact h _ e
  rw [upd_ne ne]; exact e
mutual
theorem TmIn.mono {H H' : Hp} (s : Tu H H') : ∀ (t : Tm) (v : V), TmIn H t v → TmIn H' t v
  | .var _, _, h => h
  | .app _ ts, _, ⟨a, vs, e, h, r⟩ => ⟨a, vs, e, s _ _ h, TmsIn.mono s ts vs r⟩
theorem TmsIn.mono {H H' : Hp} (s : Tu H H') : ∀ (ts : List Tm) (vs : List V), TmsIn H ts vs → TmsIn H' ts vs
  | [], _, h => h
  | t :: ts, _, ⟨v, r, e, h, q⟩ => ⟨v, r, e, TmIn.mono s t v h, TmsIn.mono s ts r q⟩
end
theorem TmIn.tu {H H' : Hp} {t : Tm} {v : V} (h : TmIn H t v) (s : Tu H H') : TmIn H' t v := TmIn.mono s t v h
theorem TmsIn.tu {H H' : Hp} {t : List Tm} {v : List V} (h : TmsIn H t v) (s : Tu H H') : TmsIn H' t v := TmsIn.mono s t v h
theorem TmsIn.length {H : Hp} : ∀ {ts : List Tm} {vs : List V}, TmsIn H ts vs → vs.length = ts.length
  | [], _, h => by cases (show _ = [] from h); rfl
  | t :: ts, _, ⟨v, r, e, _, q⟩ => by rw [e, List.length_cons, List.length_cons, TmsIn.length q]
theorem TmsIn.get {H : Hp} : ∀ {ts : List Tm} {vs : List V} {i : Nat} {v : V}, TmsIn H ts vs → vs[i]? = some v → ∃ t, ts[i]? = some t ∧ TmIn H t v
  | [], _, i, v, h, e => by cases (show _ = [] from h); simp at e
  | t :: ts, _, 0, v, ⟨w, r, rfl, h, q⟩, e => by
    have e : w = v := by simpa using e
    exact ⟨t, rfl, e ▸ h⟩
  | t :: ts, _, i + 1, v, ⟨w, r, rfl, h, q⟩, e => by
    obtain ⟨u, h1, h2⟩ := TmsIn.get (i := i) (v := v) q (by simpa using e)
    exact ⟨u, by simpa using h1, h2⟩
theorem TmsIn.get' {H : Hp} {ts : List Tm} {vs : List V} {i : Nat} {t : Tm} (h : TmsIn H ts vs) (e : ts[i]? = some t) : ∃ v, vs[i]? = some v ∧ TmIn H t v := by
  have hi : i < ts.length := (List.getElem?_eq_some_iff.mp e).1
  rw [← h.length] at hi
  obtain ⟨u, h1, h2⟩ := h.get (List.getElem?_eq_getElem hi)
  rw [e] at h1
  cases h1
  exact ⟨_, List.getElem?_eq_getElem hi, h2⟩
theorem TmsIn.append {H : Hp} : ∀ {ts us : List Tm} {vs ws : List V}, TmsIn H ts vs → TmsIn H us ws → TmsIn H (ts ++ us) (vs ++ ws)
  | [], us, vs, ws, h, q => by cases (show vs = [] from h); exact q
  | t :: ts, us, _, ws, ⟨v, r, rfl, h, k⟩, q => ⟨v, r ++ ws, rfl, h, TmsIn.append k q⟩
theorem TmsIn.one {H : Hp} {t : Tm} {v : V} (h : TmIn H t v) : TmsIn H [t] [v] := ⟨v, [], rfl, h, rfl⟩

/-! ### heaps -/
theorem same_new {H : Hp} {p : Addr} (h : H p = none) (o : HO) : Same H (upd H p o) := fun b u q => by rw [upd_ne (ne_of_none q h)]; exact q
/-- what H does not know may change -/
theorem same_mut {H H' : Hp} {p : Addr} (e : Same H H') (h : H p = none) (o : HO) : Same H (upd H' p o) := fun a u ha => by
  rw [upd_ne (ne_of_none ha h)]; exact e a u ha
theorem al_same {H H1 : Hp} {p : Addr} {o : HO} (n : H p = none) (e : upd H p o = H1) : Same H H1 := e ▸ same_new n o
theorem al_at {H H1 : Hp} {p : Addr} {o : HO} (e : upd H p o = H1) : H1 p = some o := by rw [← e]; exact upd_same
theorem al_mut {H0 H H1 : Hp} {p : Addr} {o : HO} (s : Same H0 H) (n : H0 p = none) (e : upd H p o = H1) : Same H0 H1 := e ▸ same_mut s n o
theorem al_but {H H1 : Hp} {p : Addr} {o : HO} (e : upd H p o = H1) : ∀ b u, H b = some u → b ≠ p → H1 b = some u := fun b u h n => by rw [← e, upd_ne n]; exact h
/-- all but the object at s stands as it stood -/
def But (s : Addr) (H H' : Hp) : Prop := ∀ b o, H b = some o → b ≠ s → H' b = some o
theorem But.refl (s : Addr) (H : Hp) : But s H H := fun _ _ h _ => h
theorem But.trans {s : Addr} {H H1 H2 : Hp} (a : But s H H1) (b : But s H1 H2) : But s H H2 := fun c o h n => b c o (a c o h n) n
theorem but_same {s : Addr} {H H' : Hp} (h : Same H H') : But s H H' := fun b o q _ => h b o q
theorem but_upd {s : Addr} {H : Hp} (o : HO) : But s H (upd H s o) := fun b u q n => by rw [upd_ne n]; exact q
theorem But.mut {s : Addr} {H H' : Hp} {p : Addr} (e : But s H H') (h : H p = none) (o : HO) : But s H (upd H' p o) := fun a u ha n => by
  rw [upd_ne (ne_of_none ha h)]; exact e a u ha n

/-- the list at s from which a script is drawn (what is left of a number, the numbers at l, the place, the seed) -/
def St (H : Hp) (s l : Addr) : Prop := ∃ (v at0 sd : Int) (ns : List Int), H s = some (.lst [.int v, .ref l, .int at0, .int sd]) ∧ H l = some (.lst (ns.map V.int)) ∧
  0 ≤ at0 ∧ at0 ≤ (ns.length : Int) ∧ 0 ≤ v ∧ 0 ≤ sd ∧ sd < 2147483648 ∧ ns.length ≤ 63
theorem St.ne_list {H : Hp} {s l : Addr} {ns : List Int} {v at0 sd : Int} {l' : Addr} (h : H s = some (.lst [.int v, .ref l', .int at0, .int sd])) (q : H l = some (.lst (ns.map V.int))) : l ≠ s := by
  intro e; subst e
  rw [h] at q
  injection q with q; injection q with q
  match ns, q with
  | [], q => cases q
  | [_], q => injection q with _ q; cases q
  | _ :: _ :: _, q => injection q with _ q; injection q with q _; cases q
theorem St.ne {H : Hp} {s l : Addr} (h : St H s l) : l ≠ s := by
  obtain ⟨v, a, d, ns, h1, h2, r⟩ := h
  exact St.ne_list h1 h2
theorem St.same {H H' : Hp} {s l : Addr} (h : St H s l) (b : Same H H') : St H' s l := by
  obtain ⟨v, a, d, ns, h1, h2, r⟩ := h
  exact ⟨v, a, d, ns, b _ _ h1, b _ _ h2, r⟩
theorem St.lst {H : Hp} {s l : Addr} (h : St H s l) : ∃ v a d : Int, H s = some (.lst [.int v, .ref l, .int a, .int d]) := by
  obtain ⟨v, a, d, ns, h1, _⟩ := h
  exact ⟨_, _, _, h1⟩
theorem St.nums {H : Hp} {s l : Addr} (h : St H s l) : ∃ ns : List Int, H l = some (.lst (ns.map V.int)) := by
  obtain ⟨v, a, d, ns, h1, h2, _⟩ := h
  exact ⟨_, h2⟩
theorem St.upd {H : Hp} {s l D : Addr} {o : HO} (h : St H s l) (n1 : s ≠ D) (n2 : l ≠ D) : St (upd H D o) s l := by
  obtain ⟨v, a, d, ns, h1, h2, r⟩ := h
  exact ⟨v, a, d, ns, by rw [upd_ne n1]; exact h1, by rw [upd_ne n2]; exact h2, r⟩
/-- an address that was free -/
theorem St.free {H : Hp} {s l D : Addr} (h : St H s l) (n : H D = none) : s ≠ D ∧ l ≠ D := by
  obtain ⟨v, a, d, ns, h1, h2, r⟩ := h
  exact ⟨ne_of_none h1 n, ne_of_none h2 n⟩
theorem St.but {H H' : Hp} {s l p : Addr} (h : St H s l) (b : But p H H') (n1 : s ≠ p) (n2 : l ≠ p) : St H' s l := by
  obtain ⟨v, a, d, ns, h1, h2, r⟩ := h
  exact ⟨v, a, d, ns, b _ _ h1 n1, b _ _ h2 n2, r⟩
theorem St.tu {H H' : Hp} {s l : Addr} (h : St H s l) (b : But s H H') : Tu H H' := fun a xs e => b a _ e fun z => by
  obtain ⟨_, _, _, q⟩ := h.lst
  rw [z, q] at e; cases e
/-- an object of another kind than the state's -/
theorem St.ne_tup {H : Hp} {s l a : Addr} {xs : List V} (h : St H s l) (e : H a = some (.tup xs)) : a ≠ s := fun z => by
  obtain ⟨_, _, _, q⟩ := h.lst
  rw [z, q] at e; cases e
theorem St.ne_dK {H : Hp} {s l a : Addr} {xs} (h : St H s l) (e : H a = some (.dK xs)) : a ≠ s := fun z => by
  obtain ⟨_, _, _, q⟩ := h.lst
  rw [z, q] at e; cases e

/-! ### names and operations -/
def Low (z : Str) : Prop := ∀ c ∈ z.cps.toList, 97 ≤ c ∧ c ≤ 122
/-- drawn names -/
structure Names (fs : List Str) : Prop where
  low : ∀ f ∈ fs, Low f
  lo : ∀ f ∈ fs, 1 ≤ f.length
  hi : ∀ f ∈ fs, f.length ≤ 7
  nd : fs.Nodup
/-- drawn operations at o -/
def Ops (H : Hp) (o : Addr) (fs : List Str) : Prop := Names fs ∧ (fs.length = 4 ∨ fs.length = 5) ∧ ∃ as : List Addr, H o = some (.lst (as.map V.ref)) ∧ as.length = fs.length ∧
  ∀ (k : Nat) (f : Str) (a : Addr), fs[k]? = some f → as[k]? = some a → H a = some (.tup [.str f, .int (ar k)])
theorem Ops.ne {H : Hp} {o s l : Addr} {fs : List Str} (h : Ops H o fs) (q : St H s l) : o ≠ s := by
  obtain ⟨_, hl, as, h1, h2, _⟩ := h
  obtain ⟨v, a, d, ns, e, _⟩ := q
  intro z; subst z
  rw [h1] at e
  injection e with e; injection e with e
  match as, e with
  | [], e => cases e
  | x :: _, e => injection e with e _; cases e
theorem Ops.but {H H' : Hp} {o s l : Addr} {fs : List Str} (h : Ops H o fs) (q : St H s l) (b : But s H H') : Ops H' o fs := by
  have ne := h.ne q
  obtain ⟨n, hl, as, h1, h2, h3⟩ := h
  exact ⟨n, hl, as, b _ _ h1 ne, h2, fun k f a e e' => b _ _ (h3 k f a e e') (q.ne_tup (h3 k f a e e'))⟩
theorem Ops.same {H H' : Hp} {o : Addr} {fs : List Str} (h : Ops H o fs) (b : Same H H') : Ops H' o fs := by
  obtain ⟨n, hl, as, h1, h2, h3⟩ := h
  exact ⟨n, hl, as, b _ _ h1, h2, fun k f a e e' => b _ _ (h3 k f a e e')⟩
theorem Ops.get {H : Hp} {o : Addr} {fs : List Str} (h : Ops H o fs) {k : Nat} (hk : k < fs.length) : ∃ (xs : List V) (a : Addr) (f : Str), H o = some (.lst xs) ∧ xs.length = fs.length ∧ xs[k]? = some (.ref a) ∧ fs[k]? = some f ∧ H a = some (.tup [.str f, .int (ar k)]) := by
  obtain ⟨n, hl, as, h1, h2, h3⟩ := h
  have hk' : k < as.length := by omega
  refine ⟨_, as[k], fs[k], h1, by rw [List.length_map, h2], ?_, List.getElem?_eq_getElem hk, h3 k _ _ (List.getElem?_eq_getElem hk) (List.getElem?_eq_getElem hk')⟩
  rw [List.getElem?_map, List.getElem?_eq_getElem hk']; rfl

/-! ### rules whose readings name the written part -/
def rLenS (K : PySem.W.Frag) : List V → Hp → VK → Prop := fun xs H Q => ∃ p ys, xs = [.ref p] ∧ (SqL K H p ys ∨ SqT K H p ys) ∧ Q (.int ys.length) H
def rListS (K : PySem.W.Frag) : List V → Hp → VK → Prop := fun xs H Q => ∃ p ys, xs = [.ref p] ∧ (SqL K H p ys ∨ SqT K H p ys) ∧ ∀ l, H l = none → Q (.ref l) (upd H l (.lst ys))
def rTupS (K : PySem.W.Frag) : List V → Hp → VK → Prop := fun xs H Q => ∃ p ys, xs = [.ref p] ∧ ((SqL K H p ys ∧ ∀ l, H l = none → Q (.ref l) (upd H l (.tup ys))) ∨ (SqT K H p ys ∧ Q (.ref p) H))
section
variable {X : Cx}
theorem j_len : CallR X (.builtin "len") (rLenS X.K) := call_len_seq
theorem j_list : CallR X (.type "list") (rListS X.K) := call_list_of
theorem j_tuple : CallR X (.type "tuple") (rTupS X.K) := call_tuple_of
end
/-! ### two ways meet again ahead of the rest -/
theorem seq_join {t u : TS} {D : Ends} {σ : L2.St} {H : Hp} (I : L2.St → Hp → Prop) (h2 : ∀ σ' H', I σ' H' → u D σ' H') (h1 : ∀ N : L2.St → Hp → Prop, (∀ σ' H', I σ' H' → N σ' H') → t { D with nx := N } σ H) : tSeq t u D σ H := h1 (u D) h2
theorem int_of {i j : Int} (h : (V.bl (decide (i = j))) = .bl true) : i = j := by
  injection h with h; exact of_decide_eq_true h
theorem fmod_0 {a m : Int} (h : 1 ≤ m) : 0 ≤ a.fmod m := by
  rw [Int.fmod_eq_emod_of_nonneg _ (by omega)]; exact Int.emod_nonneg _ (by omega)
theorem fmod_lt {a m : Int} (h : 1 ≤ m) : a.fmod m < m := by
  rw [Int.fmod_eq_emod_of_nonneg _ (by omega)]; exact Int.emod_lt_of_pos _ (by omega)
theorem at_int {ns : List Int} {k : Int} (h0 : 0 ≤ k) (h : k < (ns.length : Int)) : ∃ n, atI (ns.map V.int) k = some (.int n) := by
  have hk : k.toNat < ns.length := by omega
  have q : atI (ns.map V.int) ((k.toNat : Nat) : Int) = some (.int ns[k.toNat]) := atI_nat (by rw [List.getElem?_map, List.getElem?_eq_getElem hk]; rfl)
  rw [Int.toNat_of_nonneg h0] at q
  exact ⟨_, q⟩
theorem at_get {xs : List V} {k : Int} {v : V} (h0 : 0 ≤ k) (h : xs[k.toNat]? = some v) : atI xs k = some v := by
  have q : atI xs ((k.toNat : Nat) : Int) = some v := atI_nat h
  rw [Int.toNat_of_nonneg h0] at q
  exact q
/-! ### contracts that nothing meets -/
theorem fn_none {P : Program} {w : World} {K : PySem.W.Frag} {mg : Str → Option Value} {base : Heap} {CX : CXT} {f : Addr} {fd : FuncData} {ps : List Str} {sp : Sp} {k : Nat} (no : ∀ vs H Q E, ¬ sp vs H Q E) : FnOk P w K mg base CX k f fd ps sp :=
  ⟨fun vs H Q E h => absurd h (no vs H Q E), fun _ _ _ _ _ _ vs Q E _ _ _ _ h => absurd h (no vs _ Q E)⟩
end J
/-! ### isinstance, slices of terms -/
namespace J
open PySem L2
section
variable {K : PySem.W.Frag} {H : Hp} {Q : VK}
theorem isi {x : V} {n m : String} {b : Bool} (ty : TyX K H x (.type n)) (h : kitB n m = some b) (q : Q (.bl b) H) : rIsi K [x, .ty m] H Q := ⟨x, .ty m, .type n, .type m, b, rfl, .ty m, ty, kit_ty h, q⟩
theorem isi_int {i : Int} {m : String} {b : Bool} (h : kitB "int" m = some b) (q : Q (.bl b) H) : rIsi K [.int i, .ty m] H Q := isi (.base (.int i)) h q
theorem isi_str {x : Str} {m : String} {b : Bool} (h : kitB "str" m = some b) (q : Q (.bl b) H) : rIsi K [.str x, .ty m] H Q := isi (.base (.str x)) h q
theorem isi_tup {a : Addr} {xs : List V} {m : String} {b : Bool} (e : H a = some (.tup xs)) (h : kitB "tuple" m = some b) (q : Q (.bl b) H) : rIsi K [.ref a, .ty m] H Q := isi (.base (.tup e)) h q
theorem isi_lst {a : Addr} {xs : List V} {m : String} {b : Bool} (e : H a = some (.lst xs)) (h : kitB "list" m = some b) (q : Q (.bl b) H) : rIsi K [.ref a, .ty m] H Q := isi (.base (.lst e)) h q
theorem isi_dK {a : Addr} {xs} {m : String} {b : Bool} (e : H a = some (.dK xs)) (h : kitB "dict" m = some b) (q : Q (.bl b) H) : rIsi K [.ref a, .ty m] H Q := isi (.base (.dK e)) h q
theorem isi_bl {i : Bool} {m : String} {b : Bool} (h : kitB "bool" m = some b) (q : Q (.bl b) H) : rIsi K [.bl i, .ty m] H Q := isi (.base (.bl i)) h q
end
theorem cut1 (x : V) (vs : List V) : cutV (x :: vs) (some 1) none = vs := by
  unfold cutV
  have e1 : HT.sIx (x :: vs).length 0 (some 1) = 1 := by
    show min 1 (vs.length + 1) = 1
    omega
  have e2 : HT.sIx (x :: vs).length (x :: vs).length none = vs.length + 1 := rfl
  rw [e1, e2]
  simp
theorem sl1c (x : V) (vs : List V) : ¬ (HT.sIx (x :: vs).length 0 (some 1) = 0 ∧ HT.sIx (x :: vs).length (x :: vs).length none = (x :: vs).length) := by
  intro ⟨z, _⟩
  have e1 : HT.sIx (x :: vs).length 0 (some 1) = 1 := by
    show min 1 (vs.length + 1) = 1
    omega
  rw [e1] at z; cases z
theorem at_zero {x : V} {xs : List V} : atI (x :: xs) 0 = some x := atI_nat (j := 0) rfl
/-- t[1:] of an application -/
theorem sl1 {K : PySem.W.Frag} {H : Hp} {Q : VK} {a : Addr} {x : V} {vs : List V} (h : H a = some (.tup (x :: vs))) (q : ∀ p, H p = none → Q (.ref p) (upd H p (.tup vs))) : rSlT K (.ref a) (some 1) none H Q := by
  refine ⟨a, _, rfl, SqT.of h, ?_, ?_⟩
  · intro ⟨z, _⟩
    have e1 : HT.sIx (x :: vs).length 0 (some 1) = 1 := by
      show min 1 (vs.length + 1) = 1
      omega
    rw [e1] at z; cases z
  · rw [cut1]; exact q
theorem But.same {s : Addr} {H H' : Hp} (b : But s H H') {H0 : Hp} (k : Same H0 H) (n : H0 s = none) : Same H0 H' := fun a o e => b a o (k a o e) (ne_of_none e n)
theorem But.upd {s : Addr} {H H' : Hp} (b : But s H H') (o : HO) : But s H (upd H' s o) := b.trans (but_upd o)
theorem but_tu {s : Addr} {H H' : Hp} (b : But s H H') (h : ∀ xs, H s ≠ some (.tup xs)) : Tu H H' := fun a xs e => b a _ e fun z => by
  rw [z] at e; exact h _ e
theorem lst_not_tup {H : Hp} {p : Addr} {ys : List V} (h : H p = some (.lst ys)) : ∀ xs, H p ≠ some (.tup xs) := fun xs e => by
  rw [h] at e; cases e
theorem TmIn.dep_arg {f : Str} {ts : List Tm} {t : Tm} {N : Nat} (h : (Tm.app f ts).dep ≤ N + 1) (m : t ∈ ts) : t.dep ≤ N := by
  have h : 1 + Tm.deps ts ≤ N + 1 := h
  have := Tm.dep_of_mem m
  omega
theorem Tm.len_le : ∀ ts : List Tm, ts.length ≤ Tm.szs ts
  | [] => Nat.le_refl _
  | u :: us => by
    have h1 := u.sz_pos
    have h2 := Tm.len_le us
    show us.length + 1 ≤ u.sz + Tm.szs us
    omega
theorem Tm.sz_arg : ∀ {ts : List Tm} {t : Tm}, t ∈ ts → t.sz ≤ Tm.szs ts
  | u :: us, t, h => by
    show t.sz ≤ u.sz + Tm.szs us
    rcases List.mem_cons.mp h with e | h
    · rw [e]; omega
    · have := Tm.sz_arg h; omega
end J
/-! ### tests by their meaning -/
namespace J
open PySem L2
theorem ifD {p : Prop} [Decidable p] {A B : Prop} (h1 : p → A) (h2 : ¬ p → B) : if decide p = true then A else B := ite2 (fun e => h1 (of_decide_eq_true e)) fun e => h2 fun z => e (decide_eq_true z)
theorem ifN {p : Prop} [Decidable p] {A B : Prop} (h1 : ¬ p → A) (h2 : p → B) : if (!decide p) = true then A else B := by
  by_cases h : p
  · rw [decide_eq_true h]; exact h2 h
  · rw [decide_eq_false h]; exact h1 h
theorem ifEq {i j : Int} {A B : Prop} (h1 : i = j → A) (h2 : i ≠ j → B) : if decide (V.int i = V.int j) = true then A else B := ifD (fun e => h1 (by injection e)) fun e => h2 fun z => e (by rw [z])
theorem ifNe {i j : Int} {A B : Prop} (h1 : i ≠ j → A) (h2 : i = j → B) : if (!decide (V.int i = V.int j)) = true then A else B := ifN (fun e => h1 fun z => e (by rw [z])) fun e => h2 (by injection e)
theorem ifEqS {i j : Str} {A B : Prop} (h1 : i = j → A) (h2 : i ≠ j → B) : if decide (V.str i = V.str j) = true then A else B := ifD (fun e => h1 (by injection e)) fun e => h2 fun z => e (by rw [z])
theorem ifNeS {i j : Str} {A B : Prop} (h1 : i ≠ j → A) (h2 : i = j → B) : if (!decide (V.str i = V.str j)) = true then A else B := ifN (fun e => h1 fun z => e (by rw [z])) fun e => h2 (by injection e)
theorem ifB {b : Bool} {A B : Prop} (h1 : b = true → A) (h2 : b = false → B) : if b = true then A else B := ite2 h1 fun e => h2 (by cases b; rfl; exact absurd rfl e)
theorem ifNB {b : Bool} {A B : Prop} (h1 : b = false → A) (h2 : b = true → B) : if (!b) = true then A else B := by
  cases b with
  | true => exact h2 rfl
  | false => exact h1 rfl
theorem list_take_succ {α : Type} {l : List α} {i : Nat} {x : α} (h : l[i]? = some x) : l.take (i + 1) = l.take i ++ [x] := by
  rw [List.take_succ, h]; rfl
end J
namespace J
open PySem L2
mutual
theorem Tm.wf_mono {fs : List Str} {B B' : Int} (h : B ≤ B') : ∀ t : Tm, t.wf fs B → t.wf fs B'
  | .var n, w => by
    have w : 0 ≤ n ∧ n < B := w
    exact ⟨w.1, by omega⟩
  | .app f ts, w => ⟨w.1, Tm.wfs_mono h ts w.2⟩
theorem Tm.wfs_mono {fs : List Str} {B B' : Int} (h : B ≤ B') : ∀ ts : List Tm, Tm.wfs fs B ts → Tm.wfs fs B' ts
  | [], _ => True.intro
  | t :: ts, w => ⟨Tm.wf_mono h t w.1, Tm.wfs_mono h ts w.2⟩
end
theorem Tm.wf.mono {fs : List Str} {B B' : Int} {t : Tm} (w : t.wf fs B) (h : B ≤ B') : t.wf fs B' := Tm.wf_mono h t w
end J

/-! ### texts as lists of signs -/
namespace J
open PySem L2

theorem len_tl (x : Str) : x.length = x.cps.toList.length := by
  show x.cps.size = _
  rw [Array.length_toList]
theorem tl_inj {x y : Str} (h : x.cps.toList = y.cps.toList) : x = y := by
  cases x; cases y
  exact congrArg Str.mk (Array.toList_inj.mp h)
theorem tl_app (x y : Str) : (x ++ y).cps.toList = x.cps.toList ++ y.cps.toList := TL.tl_append x y
theorem len_app (x y : Str) : (x ++ y).length = x.length + y.length := by
  rw [len_tl, tl_app, List.length_append, ← len_tl, ← len_tl]
/-- texts joined by nothing -/
theorem join0 : ∀ zs : List Str, (Txt.join "" zs).cps.toList = (zs.map fun z => z.cps.toList).flatten := by
  intro zs
  rw [TL.join_eq]
  show TL.tl (Str.join "" zs) = _
  rw [TL.tl_join]
  have e : TL.tl ("" : Str) = [] := rfl
  rw [e]
  induction zs with
  | nil => rfl
  | cons a r ih =>
    cases r with
    | nil => simp [TL.joinL]
    | cons b r => 
      show TL.tl a ++ ([] ++ TL.joinL [] (TL.tl b :: r.map TL.tl)) = _
      rw [List.nil_append, List.map_cons, List.flatten_cons, ← ih]
      rfl
theorem abc : ∀ k : Nat, k < 26 → ("abcdefghijklmnopqrstuvwxyz" : Str).cps.toList[k]? = some (97 + k) := by decide +kernel
theorem abc_at {r : Int} (h0 : 0 ≤ r) (h1 : r < 26) : atI ("abcdefghijklmnopqrstuvwxyz" : Str).cps.toList r = some (97 + r.toNat) := by
  have q := atI_nat (abc r.toNat (by omega))
  rw [Int.toNat_of_nonneg h0] at q
  exact q
theorem low_one {k : Nat} (h : k < 26) : Low ⟨#[97 + k]⟩ := fun c hc => by
  have hc : c ∈ [97 + k] := hc
  rw [List.mem_singleton] at hc
  omega
theorem low_app {x y : Str} (a : Low x) (b : Low y) : Low (x ++ y) := fun c hc => by
  rw [tl_app] at hc
  rcases List.mem_append.mp hc with h | h
  · exact a c h
  · exact b c h
theorem join_low {zs : List Str} (h : ∀ z ∈ zs, z.length = 1 ∧ Low z) : (Txt.join "" zs).length = zs.length ∧ Low (Txt.join "" zs) := by
  refine ⟨?_, fun c hc => ?_⟩
  · rw [len_tl, join0]
    induction zs with
    | nil => rfl
    | cons a r ih =>
      rw [List.map_cons, List.flatten_cons, List.length_append, ih fun z hz => h z (List.mem_cons_of_mem _ hz), ← len_tl, (h a (List.mem_cons_self ..)).1, List.length_cons]
      omega
  · rw [join0] at hc
    obtain ⟨l, hl, hc⟩ := List.mem_flatten.mp hc
    obtain ⟨z, hz, rfl⟩ := List.mem_map.mp hl
    exact (h z hz).2 c hc
theorem sum_ones {zs : List Str} (h : ∀ z ∈ zs, z.length = 1) : (zs.map (·.length)).sum = zs.length := by
  induction zs with
  | nil => rfl
  | cons a r ih =>
    rw [List.map_cons, List.sum_cons, ih fun z hz => h z (List.mem_cons_of_mem _ hz), h a (List.mem_cons_self ..), List.length_cons]
    omega
/-- the k-th drawn name -/
def nameAt (b e : Str) (f : Nat) (k : Nat) : Str := b ++ (⟨#[97 + (f + 3 * k) % 26]⟩ : Str) ++ e
theorem nameAt_len (b e : Str) (f k : Nat) : (nameAt b e f k).length = b.length + 1 + e.length := by
  unfold nameAt; rw [len_app, len_app]; rfl
theorem nameAt_low {b e : Str} (hb : Low b) (he : Low e) (f k : Nat) : Low (nameAt b e f k) := low_app (low_app hb (low_one (Nat.mod_lt _ (by decide)))) he
theorem nameAt_inj {b e : Str} {f i j : Nat} (hi : i < 26) (hj : j < 26) (h : nameAt b e f i = nameAt b e f j) : i = j := by
  have h1 : (nameAt b e f i).cps.toList = (nameAt b e f j).cps.toList := by rw [h]
  unfold nameAt at h1
  rw [tl_app, tl_app, tl_app, tl_app] at h1
  have h2 := List.append_cancel_right h1
  have h3 := List.append_cancel_left h2
  have h4 : 97 + (f + 3 * i) % 26 = 97 + (f + 3 * j) % 26 := by
    have h3 : [97 + (f + 3 * i) % 26] = [97 + (f + 3 * j) % 26] := h3
    injection h3
  omega
theorem names_ok {b e : Str} {f m : Nat} (hb : Low b) (he : Low e) (lb : b.length ≤ 3) (le : e.length ≤ 3) (hm : m ≤ 26) : Names ((List.range m).map (nameAt b e f)) := by
  refine ⟨fun x hx => ?_, fun x hx => ?_, fun x hx => ?_, ?_⟩
  · obtain ⟨k, _, rfl⟩ := List.mem_map.mp hx
    exact nameAt_low hb he f k
  · obtain ⟨k, _, rfl⟩ := List.mem_map.mp hx
    rw [nameAt_len]; omega
  · obtain ⟨k, _, rfl⟩ := List.mem_map.mp hx
    rw [nameAt_len]; omega
  · refine List.nodup_iff_pairwise_ne.mpr (List.pairwise_map.mpr ?_)
    refine (List.nodup_iff_pairwise_ne.mp List.nodup_range).imp_of_mem ?_
    intro i j hi hj ne h
    exact ne (nameAt_inj (by have := List.mem_range.mp hi; omega) (by have := List.mem_range.mp hj; omega) h)
end J

/-! ### written terms -/
namespace J
open PySem L2
mutual
def wr : Tm → Str
  | .var n => ("x" : Str) ++ (toString n : String)
  | .app f [] => f
  | .app f (t :: ts) => f ++ ("(" : Str) ++ Txt.join (", " : Str) (wr t :: wrs ts) ++ (")" : Str)
def wrs : List Tm → List Str
  | [] => []
  | t :: ts => wr t :: wrs ts
end
theorem wrs_map : ∀ ts : List Tm, wrs ts = ts.map wr
  | [] => rfl
  | t :: ts => by show wr t :: wrs ts = _; rw [wrs_map ts]; rfl
theorem wr_app (f : Str) (ts : List Tm) (h : ts ≠ []) : wr (.app f ts) = f ++ ("(" : Str) ++ Txt.join (", " : Str) (ts.map wr) ++ (")" : Str) := by
  match ts, h with
  | t :: ts, _ => 
    show f ++ ("(" : Str) ++ Txt.join (", " : Str) (wr t :: wrs ts) ++ (")" : Str) = _
    rw [wrs_map]; rfl
theorem join_len (s : Str) : ∀ zs : List Str, (Txt.join s zs).length ≤ (zs.map (·.length)).sum + zs.length * s.length := by
  intro zs
  rw [TL.join_eq, len_tl]
  show (TL.tl (Str.join s zs)).length ≤ _
  rw [TL.tl_join]
  induction zs with
  | nil => exact Nat.zero_le _
  | cons a r ih =>
    cases r with
    | nil =>
      show (TL.tl a).length ≤ _
      rw [← len_tl, List.map_cons, List.sum_cons]
      omega
    | cons b r =>
      show (TL.tl a ++ (TL.tl s ++ TL.joinL (TL.tl s) ((b :: r).map TL.tl))).length ≤ _
      have e : ((a :: b :: r).map (·.length)).sum + (a :: b :: r).length * s.length = a.length + (s.length + (((b :: r).map (·.length)).sum + (b :: r).length * s.length)) := by
        rw [List.map_cons (l := b :: r), List.sum_cons, List.length_cons (as := b :: r), Nat.add_mul, Nat.one_mul]
        omega
      rw [e, List.length_append, List.length_append, ← len_tl, ← len_tl]
      omega
theorem num_len {n : Int} (h0 : 0 ≤ n) (h1 : n < 1000) : (Str.ofString (toString n)).length ≤ 3 := by
  obtain ⟨k, rfl⟩ := Int.eq_ofNat_of_zero_le h0
  have hk : k < 1000 := by omega
  have q : ∀ k : Nat, k < 1000 → (Str.ofString (toString ((k : Nat) : Int))).length ≤ 3 := by decide +kernel
  exact q k hk
mutual
theorem wr_len {fs : List Str} {B : Int} (hn : Names fs) (hB : B ≤ 1000) : ∀ t : Tm, t.wf fs B → (wr t).length + 2 ≤ 14 * t.sz
  | .var n, w => by
    have w : 0 ≤ n ∧ n < B := w
    have q := num_len w.1 (by omega)
    show (("x" : Str) ++ (Str.ofString (toString n))).length + 2 ≤ 14 * 1
    rw [len_app]
    show 1 + _ + 2 ≤ _
    omega
  | .app f [], w => by
    obtain ⟨⟨k, hk, _⟩, _⟩ := w
    have := hn.hi f (List.mem_of_getElem? hk)
    show f.length + 2 ≤ 14 * (1 + 0)
    omega
  | .app f (t :: ts), w => by
    obtain ⟨⟨k, hk, _⟩, w⟩ := w
    have h1 := hn.hi f (List.mem_of_getElem? hk)
    have h2 := wrs_len hn hB (t :: ts) w
    have h3 := join_len (", " : Str) (wrs (t :: ts))
    have h4 : (", " : Str).length = 2 := by decide +kernel
    show (f ++ ("(" : Str) ++ Txt.join (", " : Str) (wrs (t :: ts)) ++ (")" : Str)).length + 2 ≤ 14 * (1 + Tm.szs (t :: ts))
    rw [len_app, len_app, len_app]
    rw [h4] at h3
    show f.length + 1 + _ + 1 + 2 ≤ _
    omega
theorem wrs_len {fs : List Str} {B : Int} (hn : Names fs) (hB : B ≤ 1000) : ∀ ts : List Tm, Tm.wfs fs B ts → ((wrs ts).map (·.length)).sum + (wrs ts).length * 2 ≤ 14 * Tm.szs ts
  | [], _ => by show 0 + 0 * 2 ≤ _; omega
  | t :: ts, w => by
    have h1 := wr_len hn hB t w.1
    have h2 := wrs_len hn hB ts w.2
    show (wr t).length + ((wrs ts).map (·.length)).sum + ((wrs ts).length + 1) * 2 ≤ 14 * (t.sz + Tm.szs ts)
    omega
end
end J

/-! ### tokens of a text -/
namespace J
open PySem L2
abbrev cods (z : Str) : List Nat := z.cps.toList
inductive Tk where
  | nm (f : Str)
  | vr (n : Nat)
  | sg (c : Nat)
  | bd (z : Str) (w : Bool)
def Tk.txt : Tk → Str
  | .nm f => f
  | .vr n => ("x" : Str) ++ (toString ((n : Nat) : Int) : String)
  | .sg c => ⟨#[c]⟩
  | .bd z _ => z
def Tk.kd : Tk → Str
  | .nm _ => "name"
  | .vr _ => "variable"
  | .sg c => ⟨#[c]⟩
  | .bd _ _ => "unreadable"
def Tk.isW : Tk → Bool
  | .sg _ => false
  | .bd _ w => w
  | _ => true
/-- words that are neither a name nor a variable -/
def badW : List Str := ["x20", "x01", "x123", "A", "aB", "a1", "abcdefghi", "0", "1x", "xx1", "x0a"]
def Tk.Ok : Tk → Prop
  | .nm f => Low f ∧ 1 ≤ f.length ∧ f.length ≤ 8
  | .vr n => n < 20
  | .sg c => c ∈ [40, 41, 44, 61]
  | .bd z true => z ∈ badW
  | .bd z false => ∃ c ∈ [33, 95, 43, 38], z = ⟨#[c]⟩
abbrev wordS : Str := "abcdefghijklmnopqrstuvwxyzABCDEFGHIJKLMNOPQRSTUVWXYZ0123456789"
abbrev signS : Str := "(),="
theorem word_low : ∀ k : Fin 26, 97 + k.val ∈ cods wordS := by decide +kernel
theorem word_var : ∀ n : Fin 20, (∀ c ∈ cods (Tk.txt (.vr n.val)), c ∈ cods wordS) ∧ 2 ≤ (Tk.txt (.vr n.val)).length ∧ (Tk.txt (.vr n.val)).length ≤ 3 := by decide +kernel
theorem sign_no : ∀ c ∈ [40, 41, 44, 61, 32, 33, 95, 43, 38], c ∉ cods wordS := by decide +kernel
theorem bad_no : ∀ c ∈ [33, 95, 43, 38], c ∉ cods signS ∧ c ≠ 32 := by decide +kernel
theorem badW_word : ∀ z ∈ badW, (∀ c ∈ cods z, c ∈ cods wordS) ∧ 1 ≤ z.length ∧ z.length ≤ 9 := by decide +kernel
theorem sign_in : cods signS = [40, 41, 44, 61] := by decide +kernel
theorem tk_word {t : Tk} (o : t.Ok) (w : t.isW = true) : (∀ c ∈ cods t.txt, c ∈ cods wordS) ∧ 1 ≤ t.txt.length ∧ t.txt.length ≤ 9 := by
  cases t with
  | nm f =>
    obtain ⟨h1, h2, h3⟩ := o
    refine ⟨fun c hc => ?_, h2, Nat.le_trans h3 (by decide)⟩
    have := h1 c hc
    have q := word_low ⟨c - 97, by omega⟩
    rw [show 97 + (c - 97) = c by omega] at q
    exact q
  | vr n =>
    obtain ⟨h1, h2, h3⟩ := word_var ⟨n, o⟩
    exact ⟨h1, by have : 2 ≤ (Tk.vr n).txt.length := h2; omega, by have : (Tk.vr n).txt.length ≤ 3 := h3; omega⟩
  | sg c => cases w
  | bd z w' =>
    cases w' with
    | true => exact badW_word z o
    | false => cases w
/-- a text as tokens and single blanks -/
def lay : List (Option Tk) → List Nat
  | [] => []
  | none :: P => 32 :: lay P
  | some t :: P => cods t.txt ++ lay P
theorem lay_app : ∀ P R : List (Option Tk), lay (P ++ R) = lay P ++ lay R
  | [], _ => rfl
  | none :: P, R => congrArg (32 :: ·) (lay_app P R)
  | some t :: P, R => by show cods t.txt ++ lay (P ++ R) = (cods t.txt ++ lay P) ++ lay R; rw [lay_app P R, List.append_assoc]
def Sep : List (Option Tk) → Prop
  | [] => True
  | none :: P => Sep P
  | some t :: P => (t.isW = true → ∀ b, P.head? = some (some b) → b.isW = false) ∧ Sep P
def Oks (P : List (Option Tk)) : Prop := ∀ t, some t ∈ P → t.Ok
structure Rw where
  kd : Str
  wd : Str
  ix : Nat
def rowsOf : Nat → List (Option Tk) → List Rw
  | n, [] => [⟨"end", "", n⟩]
  | n, none :: P => rowsOf (n + 1) P
  | n, some t :: P => ⟨t.kd, t.txt, n⟩ :: rowsOf (n + t.txt.length) P
/-- what the rows say, without the places -/
def Rw.kw (r : Rw) : Str × Str := (r.kd, r.wd)
def Tk.kw (t : Tk) : Str × Str := (t.kd, t.txt)
theorem rows_kw : ∀ (P : List (Option Tk)) (n : Nat), (rowsOf n P).map Rw.kw = (P.filterMap id).map Tk.kw ++ [(("end" : Str), ("" : Str))]
  | [], _ => rfl
  | none :: P, n => rows_kw P (n + 1)
  | some t :: P, n => by
    show (t.kd, t.txt) :: (rowsOf (n + t.txt.length) P).map Rw.kw = _
    rw [rows_kw P]; rfl
def RwIn (H : Hp) (w : V) (r : Rw) : Prop := ∃ a : Addr, w = .ref a ∧ H a = some (.tup [.str r.kd, .str r.wd, .int (r.ix : Int)])
theorem RwIn.tu {H H' : Hp} {w : V} {r : Rw} (h : RwIn H w r) (t : Tu H H') : RwIn H' w r := let ⟨a, e, q⟩ := h; ⟨a, e, t _ _ q⟩
def RwsIn (H : Hp) (ws : List V) (rs : List Rw) : Prop := ws.length = rs.length ∧ ∀ (i : Nat) (w : V) (r : Rw), ws[i]? = some w → rs[i]? = some r → RwIn H w r
theorem RwsIn.tu {H H' : Hp} {ws : List V} {rs : List Rw} (h : RwsIn H ws rs) (t : Tu H H') : RwsIn H' ws rs := ⟨h.1, fun i w r a b => (h.2 i w r a b).tu t⟩
theorem RwsIn.snoc {H : Hp} {ws : List V} {rs : List Rw} {w : V} {r : Rw} (h : RwsIn H ws rs) (g : RwIn H w r) : RwsIn H (ws ++ [w]) (rs ++ [r]) := by
  refine ⟨by rw [List.length_append, List.length_append, h.1]; rfl, fun i v y a b => ?_⟩
  by_cases c : i < ws.length
  · rw [List.getElem?_append_left c] at a
    rw [List.getElem?_append_left (by rw [← h.1]; exact c)] at b
    exact h.2 i v y a b
  · rw [List.getElem?_append_right (by omega)] at a
    rw [List.getElem?_append_right (by rw [← h.1]; omega), ← h.1] at b
    have hi := (List.getElem?_eq_some_iff.mp a).1
    have e0 : i - ws.length = 0 := by
      have : i - ws.length < 1 := hi
      omega
    rw [e0] at a b
    cases a; cases b
    exact g
theorem RwsIn.get {H : Hp} {ws : List V} {rs : List Rw} {i : Nat} {r : Rw} (h : RwsIn H ws rs) (g : rs[i]? = some r) : ∃ w, ws[i]? = some w ∧ RwIn H w r := by
  have hi := (List.getElem?_eq_some_iff.mp g).1
  have gw := List.getElem?_eq_getElem (l := ws) (i := i) (by rw [h.1]; exact hi)
  exact ⟨_, gw, h.2 i _ r gw g⟩
/-! tokens of a term -/
mutual
def tkl : Tm → List Tk
  | .var n => [.vr n.toNat]
  | .app f [] => [.nm f]
  | .app f (t :: ts) => .nm f :: .sg 40 :: (tkl t ++ tkls ts)
def tkls : List Tm → List Tk
  | [] => [.sg 41]
  | t :: ts => .sg 44 :: (tkl t ++ tkls ts)
end
def NoAdj : List Tk → Prop
  | [] => True
  | t :: T => (t.isW = true → ∀ b, T.head? = some b → b.isW = false) ∧ NoAdj T
/-- what follows begins with no word -/
def NoW (T : List Tk) : Prop := ∀ b, T.head? = some b → b.isW = false
theorem noW_tkls (ts : List Tm) (R : List Tk) : NoW (tkls ts ++ R) := by
  intro b hb
  cases ts with
  | nil => cases (show some (Tk.sg 41) = some b from hb); rfl
  | cons t ts => cases (show some (Tk.sg 44) = some b from hb); rfl
mutual
theorem noAdj_tkl : ∀ (t : Tm) (R : List Tk), NoW R → NoAdj R → NoAdj (tkl t ++ R)
  | .var n, R, h, g => ⟨fun _ b hb => h b hb, g⟩
  | .app f [], R, h, g => ⟨fun _ b hb => h b hb, g⟩
  | .app f (t :: ts), R, h, g => by
    show NoAdj (.nm f :: .sg 40 :: ((tkl t ++ tkls ts) ++ R))
    refine ⟨fun _ b hb => (by cases hb; rfl), fun z => (nomatch z), ?_⟩
    rw [List.append_assoc]
    exact noAdj_tkl t _ (noW_tkls ts R) (noAdj_tkls ts R h g)
theorem noAdj_tkls : ∀ (ts : List Tm) (R : List Tk), NoW R → NoAdj R → NoAdj (tkls ts ++ R)
  | [], R, h, g => ⟨fun z => (nomatch z), g⟩
  | t :: ts, R, h, g => by
    show NoAdj (.sg 44 :: ((tkl t ++ tkls ts) ++ R))
    refine ⟨fun z => (nomatch z), ?_⟩
    rw [List.append_assoc]
    exact noAdj_tkl t _ (noW_tkls ts R) (noAdj_tkls ts R h g)
end
theorem sep_of : ∀ P : List (Option Tk), NoAdj (P.filterMap id) → Sep P
  | [], _ => trivial
  | none :: P, h => sep_of P h
  | some t :: P, h => by
    have h : NoAdj (t :: P.filterMap id) := h
    refine ⟨fun w b hb => h.1 w b ?_, sep_of P h.2⟩
    cases P with
    | nil => cases hb
    | cons o P => cases (show some o = some (some b) from hb); rfl
mutual
theorem tkl_ok {fs : List Str} (hn : Names fs) : ∀ t : Tm, t.wf fs 20 → ∀ k ∈ tkl t, k.Ok
  | .var n, w, k, hk => by
    have w : 0 ≤ n ∧ n < 20 := w
    rw [List.mem_singleton.mp (show k ∈ [Tk.vr n.toNat] from hk)]
    show n.toNat < 20
    omega
  | .app f [], w, k, hk => by
    rw [List.mem_singleton.mp (show k ∈ [Tk.nm f] from hk)]
    obtain ⟨⟨i, hi, _⟩, _⟩ := w
    have m := List.mem_of_getElem? hi
    exact ⟨hn.low f m, hn.lo f m, Nat.le_trans (hn.hi f m) (by decide)⟩
  | .app f (t :: ts), w, k, hk => by
    obtain ⟨⟨i, hi, _⟩, w⟩ := w
    have m := List.mem_of_getElem? hi
    rcases List.mem_cons.mp (show k ∈ Tk.nm f :: Tk.sg 40 :: (tkl t ++ tkls ts) from hk) with e | hk
    · rw [e]; exact ⟨hn.low f m, hn.lo f m, Nat.le_trans (hn.hi f m) (by decide)⟩
    · rcases List.mem_cons.mp hk with e | hk
      · rw [e]; exact List.mem_cons_self ..
      · rcases List.mem_append.mp hk with hk | hk
        · exact tkl_ok hn t w.1 k hk
        · exact tkls_ok hn ts w.2 k hk
theorem tkls_ok {fs : List Str} (hn : Names fs) : ∀ ts : List Tm, Tm.wfs fs 20 ts → ∀ k ∈ tkls ts, k.Ok
  | [], _, k, hk => by
    rw [List.mem_singleton.mp (show k ∈ [Tk.sg 41] from hk)]
    show 41 ∈ [40, 41, 44, 61]
    decide
  | t :: ts, w, k, hk => by
    rcases List.mem_cons.mp (show k ∈ Tk.sg 44 :: (tkl t ++ tkls ts) from hk) with e | hk
    · rw [e]; show 44 ∈ [40, 41, 44, 61]; decide
    · rcases List.mem_append.mp hk with hk | hk
      · exact tkl_ok hn t w.1 k hk
      · exact tkls_ok hn ts w.2 k hk
end
/-! the written form -/
mutual
def wps : Tm → List (Option Tk)
  | .var n => [some (.vr n.toNat)]
  | .app f [] => [some (.nm f)]
  | .app f (t :: ts) => some (.nm f) :: some (.sg 40) :: (wps t ++ wpss ts)
def wpss : List Tm → List (Option Tk)
  | [] => [some (.sg 41)]
  | t :: ts => some (.sg 44) :: none :: (wps t ++ wpss ts)
end
mutual
theorem wps_tk : ∀ t : Tm, (wps t).filterMap id = tkl t
  | .var _ => rfl
  | .app _ [] => rfl
  | .app f (t :: ts) => by
    show Tk.nm f :: Tk.sg 40 :: (wps t ++ wpss ts).filterMap id = _
    rw [List.filterMap_append, wps_tk t, wpss_tk ts]; rfl
theorem wpss_tk : ∀ ts : List Tm, (wpss ts).filterMap id = tkls ts
  | [] => rfl
  | t :: ts => by
    show Tk.sg 44 :: (wps t ++ wpss ts).filterMap id = _
    rw [List.filterMap_append, wps_tk t, wpss_tk ts]; rfl
end
def joinR : List Str → List Nat
  | [] => [41]
  | z :: zs => 44 :: 32 :: (cods z ++ joinR zs)
theorem join_cods (s : Str) : ∀ (z : Str) (zs : List Str), s = (", " : Str) → cods (Txt.join s (z :: zs)) ++ [41] = cods z ++ joinR zs
  | z, [], e => by
    rw [TL.join_eq]
    show TL.tl (Str.join s [z]) ++ [41] = _
    rw [TL.tl_join]; rfl
  | z, y :: zs, e => by
    have ih := join_cods s y zs e
    rw [TL.join_eq] at ih ⊢
    have ih : TL.tl (Str.join s (y :: zs)) ++ [41] = cods y ++ joinR zs := ih
    rw [TL.tl_join] at ih
    show TL.tl (Str.join s (z :: y :: zs)) ++ [41] = _
    rw [TL.tl_join]
    show (TL.tl z ++ (TL.tl s ++ TL.joinL (TL.tl s) ((y :: zs).map TL.tl))) ++ [41] = cods z ++ (44 :: 32 :: (cods y ++ joinR zs))
    rw [← ih, e, show TL.tl (", " : Str) = [44, 32] from by decide +kernel, List.append_assoc]
    rfl
mutual
theorem lay_wps {fs : List Str} : ∀ t : Tm, t.wf fs 20 → lay (wps t) = cods (wr t)
  | .var n, w => by
    have w : 0 ≤ n ∧ n < 20 := w
    obtain ⟨k, rfl⟩ := Int.eq_ofNat_of_zero_le w.1
    show cods (Tk.txt (.vr k)) ++ [] = _
    rw [List.append_nil]; rfl
  | .app f [], w => by
    show cods f ++ [] = _
    rw [List.append_nil]; rfl
  | .app f (t :: ts), w => by
    have e1 := lay_wps t w.2.1
    have e2 := lay_wpss ts w.2.2
    show cods f ++ (cods (Tk.txt (.sg 40)) ++ lay (wps t ++ wpss ts)) = cods (f ++ ("(" : Str) ++ Txt.join (", " : Str) (wr t :: wrs ts) ++ (")" : Str))
    unfold cods
    rw [tl_app, tl_app, tl_app, lay_app, e1, e2, List.append_assoc, List.append_assoc]
    have := join_cods (", " : Str) (wr t) (wrs ts) rfl
    unfold cods at this
    rw [show ((")" : String) : Str).cps.toList = [41] by decide +kernel, this, show (("(" : String) : Str).cps.toList = [40] by decide +kernel]
    rfl
theorem lay_wpss {fs : List Str} : ∀ ts : List Tm, Tm.wfs fs 20 ts → lay (wpss ts) = joinR (wrs ts)
  | [], _ => rfl
  | t :: ts, w => by
    show 44 :: 32 :: lay (wps t ++ wpss ts) = 44 :: 32 :: (cods (wr t) ++ joinR (wrs ts))
    rw [lay_app, lay_wps t w.1, lay_wpss ts w.2]
end
end J
namespace J
open PySem L2
/-! text * number -/
def rMulS : R2 := fun x y H Q => ∃ (z : Str) (k : Nat), x = .str z ∧ y = .int (k : Int) ∧ k ≤ 1000 ∧ z.length ≤ 1000 ∧ Q (.str (Txt.mul z (k : Int))) H
theorem mulOk_small {z : Str} {k : Nat} (hk : k ≤ 1000) (hz : z.length ≤ 1000) : MulOk z (k : Int) := by
  refine ⟨?_, fun h1 _ => ?_, fun h1 _ => ?_⟩
  · rw [decide_eq_false (by omega), decide_eq_false (by omega)]; rfl
  · have h1 : ¬ (k : Int) < 1 := h1
    have : (2 ^ 63 - 1 : Int) / (k : Int) ≥ 1000 := by
      rw [ge_iff_le, Int.le_ediv_iff_mul_le (by omega)]
      omega
    omega
  · have : z.length * k ≤ 1000 * 1000 := Nat.mul_le_mul hz hk
    have e : ((k : Int)).toNat = k := rfl
    rw [e]
    exact decide_eq_false (fun h => absurd (show 2 ^ 24 < z.length * k from h) (by omega))
theorem op_mulS {X : Cx} : OpR X (binaryOp .Mult) rMulS := by
  intro pins s σ H x y v u Q I rx ry h
  obtain ⟨z, k, rfl, rfl, hk, hz, q⟩ := h
  obtain ⟨t, rfl⟩ := rx
  obtain ⟨t', rfl⟩ := ry
  exact SB.mul (mulOk_small hk hz) (fun t' tk => ⟨.str (Txt.mul z (k : Int)), H, I.tok _, ⟨_, rfl⟩, q⟩)
theorem mul_blank : ∀ k : Fin 4, cods (Txt.mul (" " : Str) ((k.val : Nat) : Int)) = List.replicate k.val 32 := by decide +kernel
end J
namespace J
open PySem L2
/-! the fields of the reader of tokens -/
theorem tk_ne {f g : Str} {v y : V} {r : List (Str × V)} (h : ¬ g = f) : putF f y ((g, v) :: r) = (g, v) :: putF f y r := if_neg h
theorem tk_flds2 (a b : V) : putF ("_at" : Str) b [(("_rows" : Str), a)] = [(("_rows" : Str), a), (("_at" : Str), b)] := by rw [tk_ne (by decide +kernel)]; rfl
theorem tk_put (a b c : V) : putF ("_at" : Str) c [(("_rows" : Str), a), (("_at" : Str), b)] = [(("_rows" : Str), a), (("_at" : Str), c)] := by rw [tk_ne (by decide +kernel)]; exact congrArg (List.cons _) (if_pos rfl)
theorem tk_rows (a b : V) : ([(("_rows" : Str), a), (("_at" : Str), b)] : List (Str × V)).lookup ("_rows" : Str) = some a := by
  rw [List.lookup_cons, show ((("_rows" : Str) == ("_rows" : Str)) = true) by decide +kernel]
theorem tk_at (a b : V) : ([(("_rows" : Str), a), (("_at" : Str), b)] : List (Str × V)).lookup ("_at" : Str) = some b := by
  rw [List.lookup_cons, show ((("_at" : Str) == ("_rows" : Str)) = false) by decide +kernel]
  show List.lookup _ _ = _
  rw [List.lookup_cons, show ((("_at" : Str) == ("_at" : Str)) = true) by decide +kernel]
theorem tk_no {m : Str} (a b : V) (h1 : (m == ("_rows" : Str)) = false) (h2 : (m == ("_at" : Str)) = false) : ([(("_rows" : Str), a), (("_at" : Str), b)] : List (Str × V)).lookup m = none := by
  rw [List.lookup_cons, h1]
  show List.lookup _ _ = _
  rw [List.lookup_cons, h2]; rfl
theorem var_no_low : ∀ n : Fin 20, ∃ c ∈ cods (Tk.txt (.vr n.val)), c < 97 := by decide +kernel
theorem low_not {n : Nat} (h : n < 20) : ¬ Low (Tk.txt (.vr n)) := fun z => by
  obtain ⟨c, hc, lt⟩ := var_no_low ⟨n, h⟩
  have := z c hc
  omega
end J
namespace J
open PySem L2
theorem inV_strs (n : Str) : ∀ l : List Str, inV (.str n) (l.map V.str) = decide (n ∈ l) := by
  intro l
  unfold inV
  rw [List.any_map]
  refine Bool.eq_iff_iff.mpr ?_
  rw [List.any_eq_true, decide_eq_true_iff]
  constructor
  · rintro ⟨x, hx, e⟩
    have e : (x == n) = true := e
    rw [← eq_of_beq e]; exact hx
  · intro h
    exact ⟨n, h, beq_self_eq_true n⟩
/-! the word of a variable -/
theorem var_word : ∀ n : Fin 20, let z := Tk.txt (.vr n.val); let d := cutS z (some 1) none
    z.cps[0]? = some 120 ∧ Txt.isdigit d = true ∧ d.length ≤ 2 ∧ PySem.intText? d = some (n.val : Int) ∧ Str.ofString (toString ((n.val : Nat) : Int)) = d := by decide +kernel
end J
namespace J
open PySem L2
theorem abc_in (c : Nat) (h : c ∈ cods ("abcdefghijklmnopqrstuvwxyz" : Str)) : 97 ≤ c ∧ c ≤ 122 := by
  have q : ∀ c ∈ cods ("abcdefghijklmnopqrstuvwxyz" : Str), 97 ≤ c ∧ c ≤ 122 := by decide +kernel
  exact q c h
theorem abc_of (c : Nat) (h : 97 ≤ c ∧ c ≤ 122) : c ∈ cods ("abcdefghijklmnopqrstuvwxyz" : Str) := by
  have q : ∀ k : Fin 26, 97 + k.val ∈ cods ("abcdefghijklmnopqrstuvwxyz" : Str) := by decide +kernel
  have := q ⟨c - 97, by omega⟩
  rw [show 97 + (c - 97) = c by omega] at this
  exact this
end J
namespace J
open PySem L2
theorem cut_mid {z w : Str} {pre suf : List Nat} (h : cods z = pre ++ (cods w ++ suf)) : cutS z (some ((pre.length : Nat) : Int)) (some ((pre.length + w.length : Nat) : Int)) = w := by
  have zl : z.length = (cods z).length := len_tl z
  have wl : w.length = (cods w).length := len_tl w
  rw [h, List.length_append, List.length_append] at zl
  unfold cutS
  rw [HT.sIx_nat, HT.sIx_nat, Nat.min_eq_left (by omega), Nat.min_eq_left (by omega)]
  refine tl_inj ?_
  show ((cods z).drop pre.length).take (pre.length + w.length - pre.length) = cods w
  rw [h, List.drop_left' rfl, Nat.add_sub_cancel_left, wl, List.take_left' rfl]
/-- what stands behind a word is no word's sign -/
theorem behind {P : List (Option Tk)} {t : Tk} (hw : t.isW = true) (hs : Sep (some t :: P)) (ok : ∀ t, some t ∈ P → t.Ok) : ∀ c, (lay P)[0]? = some c → c ∈ [40, 41, 44, 61, 32, 33, 95, 43, 38] := by
  intro c hc
  cases P with
  | nil => cases hc
  | cons o P =>
    cases o with
    | none => cases (show some 32 = some c from hc); decide
    | some b =>
      have nb := hs.1 hw b rfl
      have okb := ok b (List.mem_cons_self ..)
      cases b with
      | nm f => cases nb
      | vr n => cases nb
      | sg d =>
        have e : d = c := Option.some.inj hc
        subst e
        have m : d ∈ [40, 41, 44, 61] := okb
        simp at m ⊢
        omega
      | bd z w' =>
        cases w' with
        | true => cases nb
        | false =>
          obtain ⟨d, md, rfl⟩ := okb
          have e : d = c := Option.some.inj hc
          subst e
          simp at md ⊢
          omega
end J
namespace J
open PySem L2
theorem lay_nil {P : List (Option Tk)} (ok : ∀ t, some t ∈ P → t.Ok) (h : (lay P).length = 0) : P = [] := by
  cases P with
  | nil => rfl
  | cons o P =>
    exfalso
    cases o with
    | none => cases h
    | some t =>
      have okt := ok t (List.mem_cons_self ..)
      have h : (cods t.txt ++ lay P).length = 0 := h
      rw [List.length_append, ← len_tl] at h
      have : 1 ≤ t.txt.length := by
        cases t with
        | nm f => exact okt.2.1
        | vr n => exact (tk_word (t := .vr n) okt rfl).2.1
        | sg c => exact Nat.le_refl 1
        | bd z w' =>
          cases w' with
          | true => exact (badW_word z okt).2.1
          | false => obtain ⟨d, _, rfl⟩ := okt; exact Nat.le_refl 1
      omega
end J
namespace J
open PySem L2
theorem kw_head {rs : List Rw} {i : Nat} {k w : Str} {L : List (Str × Str)} (h : (rs.drop i).map Rw.kw = (k, w) :: L) : ∃ x, rs[i]? = some x ∧ x.kd = k ∧ x.wd = w ∧ (rs.drop (i + 1)).map Rw.kw = L := by
  cases e : rs.drop i with
  | nil => rw [e] at h; cases h
  | cons x l =>
    rw [e] at h
    have h : x.kw :: l.map Rw.kw = (k, w) :: L := h
    injection h with h1 h2
    have hi : i < rs.length := by
      by_cases c : i < rs.length
      · exact c
      · rw [List.drop_of_length_le (by omega)] at e; cases e
    rw [List.drop_eq_getElem_cons hi] at e
    injection e with e1 e2
    have h1 : (x.kd, x.wd) = (k, w) := h1
    injection h1 with h3 h4
    exact ⟨x, by rw [List.getElem?_eq_getElem hi, e1], h3, h4, by rw [e2]; exact h2⟩
/-- what follows does not begin with an opening bracket -/
def HeadNot (R : List (Str × Str)) : Prop := ∃ k w R', R = (k, w) :: R' ∧ k ≠ ("(" : Str)
theorem headNot_tkls (ts : List Tm) (R : List (Str × Str)) : HeadNot ((tkls ts).map Tk.kw ++ R) := by
  cases ts with
  | nil => exact ⟨_, _, _, rfl, by decide +kernel⟩
  | cons t ts => exact ⟨_, _, _, rfl, by decide +kernel⟩
theorem headNot_tkl (t : Tm) (R : List (Str × Str)) : True := trivial
def TkAt (C : Addr) (H : Hp) (p dx r : Addr) (i : Nat) (ws : List V) (rs : List Rw) : Prop := H p = some (.ins C dx [("_rows", .ref r), ("_at", .int (i : Int))]) ∧ H r = some (.lst ws) ∧ RwsIn H ws rs ∧ r ≠ p
theorem TkAt.same {C : Addr} {H H' : Hp} {p dx r : Addr} {i : Nat} {ws : List V} {rs : List Rw} (h : TkAt C H p dx r i ws rs) (s : Same H H') : TkAt C H' p dx r i ws rs := ⟨s _ _ h.1, s _ _ h.2.1, h.2.2.1.tu (tu_same s), h.2.2.2⟩
theorem ins_tu {C : Addr} {H H' : Hp} {p dx : Addr} {fs : List (Str × V)} (hp : H p = some (.ins C dx fs)) (b : But p H H') : Tu H H' := fun a xs e => b _ _ e fun z => by rw [z, hp] at e; cases e
theorem TkAt.but {C : Addr} {H H' : Hp} {p dx r : Addr} {i j : Nat} {ws : List V} {rs : List Rw} (h : TkAt C H p dx r i ws rs) (b : But p H H') (e : H' p = some (.ins C dx [("_rows", .ref r), ("_at", .int (j : Int))])) : TkAt C H' p dx r j ws rs :=
  ⟨e, b _ _ h.2.1 h.2.2.2, h.2.2.1.tu (ins_tu h.1 b), h.2.2.2⟩
end J
namespace J
open PySem L2
theorem kw_drop {rs : List Rw} {i : Nat} {T : List Tk} {R : List (Str × Str)} (h : (rs.drop i).map Rw.kw = T.map Tk.kw ++ R) : (rs.drop (i + T.length)).map Rw.kw = R := by
  rw [← List.drop_drop, List.map_drop, h, List.drop_left' (List.length_map _)]
end J
namespace J
open PySem L2
/-! tokens as the law lists them -/
def tkb : List Tm → List Tk
  | [] => []
  | t :: ts => .sg 44 :: (tkl t ++ tkb ts)
def tka : List Tm → List Tk
  | [] => []
  | t :: ts => tkl t ++ tkb ts
theorem tkls_tkb : ∀ ts : List Tm, tkls ts = tkb ts ++ [.sg 41]
  | [] => rfl
  | t :: ts => by
    show Tk.sg 44 :: (tkl t ++ tkls ts) = (Tk.sg 44 :: (tkl t ++ tkb ts)) ++ [.sg 41]
    rw [tkls_tkb ts, List.cons_append, List.append_assoc]
theorem tkb_app : ∀ (ts us : List Tm), tkb (ts ++ us) = tkb ts ++ tkb us
  | [], _ => rfl
  | t :: ts, us => by
    show Tk.sg 44 :: (tkl t ++ tkb (ts ++ us)) = (Tk.sg 44 :: (tkl t ++ tkb ts)) ++ tkb us
    rw [tkb_app ts us, List.cons_append, List.append_assoc]
theorem tkl_tka {f : Str} {ts : List Tm} (h : ts ≠ []) : tkl (.app f ts) = .nm f :: .sg 40 :: (tka ts ++ [.sg 41]) := by
  match ts, h with
  | t :: ts, _ =>
    show Tk.nm f :: Tk.sg 40 :: (tkl t ++ tkls ts) = Tk.nm f :: Tk.sg 40 :: ((tkl t ++ tkb ts) ++ [.sg 41])
    rw [tkls_tkb, List.append_assoc]
theorem tka_snoc {ts : List Tm} {t : Tm} : tka (ts ++ [t]) = tka ts ++ ((if ts = [] then [] else [Tk.sg 44]) ++ tkl t) := by
  cases ts with
  | nil => show tkl t ++ [] = [] ++ ([] ++ tkl t); simp
  | cons u us =>
    rw [if_neg (fun z => nomatch z)]
    show tkl u ++ tkb (us ++ [t]) = (tkl u ++ tkb us) ++ ([Tk.sg 44] ++ tkl t)
    rw [tkb_app, List.append_assoc]
    show _ ++ (_ ++ (Tk.sg 44 :: (tkl t ++ []))) = _
    rw [List.append_nil]; rfl
mutual
theorem tkl_len : ∀ t : Tm, (tkl t).length + 1 ≤ 3 * t.sz
  | .var _ => by show 1 + 1 ≤ 3 * 1; omega
  | .app _ [] => by show 1 + 1 ≤ 3 * (1 + 0); omega
  | .app f (t :: ts) => by
    have h1 := tkl_len t
    have h2 := tkls_len ts
    show (tkl t ++ tkls ts).length + 1 + 1 + 1 ≤ 3 * (1 + (t.sz + Tm.szs ts))
    rw [List.length_append]; omega
theorem tkls_len : ∀ ts : List Tm, (tkls ts).length ≤ 3 * Tm.szs ts + 1
  | [] => Nat.le_refl 1
  | t :: ts => by
    have h1 := tkl_len t
    have h2 := tkls_len ts
    have h3 := t.sz_pos
    show (tkl t ++ tkls ts).length + 1 ≤ 3 * (t.sz + Tm.szs ts) + 1
    rw [List.length_append]
    omega
end
end J
namespace J
open PySem L2
theorem tkb_len : ∀ ts : List Tm, (tkb ts).length ≤ 3 * Tm.szs ts
  | [] => Nat.le_refl 0
  | t :: ts => by
    have h1 := tkl_len t
    have h2 := tkb_len ts
    show (tkl t ++ tkb ts).length + 1 ≤ 3 * (t.sz + Tm.szs ts)
    rw [List.length_append]; omega
theorem tka_len (ts : List Tm) : (tka ts).length ≤ 3 * Tm.szs ts := by
  cases ts with
  | nil => exact Nat.zero_le _
  | cons t ts =>
    have h1 := tkl_len t
    have h2 := tkb_len ts
    show (tkl t ++ tkb ts).length ≤ 3 * (t.sz + Tm.szs ts)
    rw [List.length_append]; omega
end J
namespace J
open PySem L2
def chkW (z : Str) : Nat :=
  let d := cutS z (some 1) none
  if z.cps[0]? ≠ some 120 then 0 else if Txt.isdigit d = false then 1 else if 2 < d.length then 2 else
    match PySem.intText? d with
    | some n => if 19 < n then 3 else if Str.ofString (toString n) ≠ d ∧ n.natAbs < 100 then 4 else 5
    | none => 5
theorem badW_chk : ∀ z ∈ badW, chkW z ≠ 5 ∧ ¬ (1 ≤ z.length ∧ z.length ≤ 8 ∧ ∀ c ∈ cods z, 97 ≤ c ∧ c ≤ 122) := by decide +kernel
end J
namespace J
open PySem L2
/-- kinds that no term goes on with -/
def BadK (k : Str) : Prop := k ∉ [("name" : Str), "variable", "(", ",", ")"]
/-- the reader at i: tokens T, behind them the row x -/
def At (rs : List Rw) (i : Nat) (T : List Tk) (x : Rw) : Prop := ∃ R, (rs.drop i).map Rw.kw = T.map Tk.kw ++ x.kw :: R ∧ rs[i + T.length]? = some x
theorem At.nil {rs : List Rw} {i : Nat} {x : Rw} (h : At rs i [] x) : rs[i]? = some x := h.elim fun _ h => h.2
theorem At.cons {rs : List Rw} {i : Nat} {t : Tk} {T : List Tk} {x : Rw} (h : At rs i (t :: T) x) : (∃ y, rs[i]? = some y ∧ y.kd = t.kd ∧ y.wd = t.txt) ∧ At rs (i + 1) T x := by
  obtain ⟨R, h1, h2⟩ := h
  obtain ⟨y, g, e1, e2, h3⟩ := kw_head (k := t.kd) (w := t.txt) (L := T.map Tk.kw ++ x.kw :: R) h1
  exact ⟨⟨y, g, e1, e2⟩, R, h3, by rw [← h2, List.length_cons]; congr 1; omega⟩
theorem At.drop {rs : List Rw} {i : Nat} {T U : List Tk} {x : Rw} (h : At rs i (T ++ U) x) : At rs (i + T.length) U x := by
  obtain ⟨R, h1, h2⟩ := h
  rw [List.map_append, List.append_assoc] at h1
  exact ⟨R, kw_drop h1, by rw [← h2, List.length_append]; congr 1; omega⟩
/-- a proper prefix -/
def Pre (T W : List Tk) : Prop := ∃ S, S ≠ [] ∧ T ++ S = W
theorem pre_cons {t w : Tk} {T W : List Tk} (h : Pre (t :: T) (w :: W)) : t = w ∧ Pre T W := by
  obtain ⟨S, n, e⟩ := h
  injection e with e1 e2
  exact ⟨e1, S, n, e2⟩
theorem pre_app {W V : List Tk} : ∀ {T : List Tk}, Pre T (W ++ V) → Pre T W ∨ ∃ U, T = W ++ U ∧ Pre U V := by
  intro T
  rintro ⟨S, n, e⟩
  rcases List.append_eq_append_iff.mp e with ⟨a, e1, e2⟩ | ⟨a, e1, e2⟩
  · by_cases z : a = []
    · subst z
      rw [List.append_nil] at e1
      exact .inr ⟨[], by rw [e1, List.append_nil], S, n, e2⟩
    · exact .inl ⟨a, z, e1.symm⟩
  · exact .inr ⟨a, e1, S, n, e2.symm⟩
end J
namespace J
open PySem L2
theorem BadK.nv {k : Str} (h : BadK k) : k ∉ [("name" : Str), "variable"] := fun m => h (by
  rcases List.mem_cons.mp m with e | m
  · rw [e]; exact List.mem_cons_self ..
  · rw [List.mem_singleton.mp m]; exact List.mem_cons_of_mem _ (List.mem_cons_self ..))
theorem BadK.op {k : Str} (h : BadK k) : k ≠ ("(" : Str) := fun e => h (by rw [e]; exact List.mem_cons_of_mem _ (List.mem_cons_of_mem _ (List.mem_cons_self ..)))
theorem BadK.cm {k : Str} (h : BadK k) : k ≠ ("," : Str) := fun e => h (by rw [e]; exact List.mem_cons_of_mem _ (List.mem_cons_of_mem _ (List.mem_cons_of_mem _ (List.mem_cons_self ..))))
theorem BadK.cl {k : Str} (h : BadK k) : k ∉ [(")" : Str)] := fun m => h (by rw [List.mem_singleton.mp m]; exact List.mem_cons_of_mem _ (List.mem_cons_of_mem _ (List.mem_cons_of_mem _ (List.mem_cons_of_mem _ (List.mem_cons_self ..)))))
end J
namespace J
open PySem L2
theorem pre_irr {T : List Tk} (h : Pre T T) : False := by
  obtain ⟨S, n, e⟩ := h
  exact n (List.append_right_eq_self.mp e)
theorem At.pre {rs : List Rw} {i : Nat} {T U : List Tk} {x : Rw} (h : At rs i (T ++ U) x) : ∃ x0, At rs i T x0 ∧ ((U = [] ∧ x0 = x) ∨ ∃ u U', U = u :: U' ∧ x0.kd = u.kd) := by
  cases U with
  | nil => rw [List.append_nil] at h; exact ⟨x, h, .inl ⟨rfl, rfl⟩⟩
  | cons u U =>
    obtain ⟨⟨y, g, e1, e2⟩, _⟩ := h.drop.cons
    obtain ⟨R, h1, _⟩ := h
    refine ⟨y, ⟨U.map Tk.kw ++ x.kw :: R, ?_, g⟩, .inr ⟨u, U, rfl, e1⟩⟩
    rw [h1, List.map_append, List.append_assoc]
    show _ ++ (u.kw :: _) = _ ++ (y.kw :: _)
    rw [show u.kw = y.kw from Prod.ext e1.symm e2.symm]; rfl
theorem tkls_head {ts : List Tm} {u : Tk} {U : List Tk} (h : u :: U = tkls ts ∨ Pre (u :: U) (tkls ts)) : u.kd ≠ ("(" : Str) := by
  cases ts with
  | nil =>
    have e : u = .sg 41 := by
      rcases h with h | h
      · exact (List.cons.inj h).1
      · exact (pre_cons (w := .sg 41) (W := []) h).1
    rw [e]; decide +kernel
  | cons t ts =>
    have e : u = .sg 44 := by
      rcases h with h | h
      · exact (List.cons.inj h).1
      · exact (pre_cons (w := .sg 44) (W := tkl t ++ tkls ts) h).1
    rw [e]; decide +kernel
theorem split_at {rs : List Rw} {i : Nat} {W : List Tk} {t : Tm} {ts : List Tm} {x : Rw} (ha : At rs i W x) (md : (W = tkl t ++ tkls ts ∧ x.kd ≠ ("(" : Str)) ∨ (Pre W (tkl t ++ tkls ts) ∧ BadK x.kd)) :
    ∃ (T0 : List Tk) (x0 : Rw) (U : List Tk), At rs i T0 x0 ∧ ((T0 = tkl t ∧ x0.kd ≠ ("(" : Str)) ∨ (Pre T0 (tkl t) ∧ BadK x0.kd)) ∧ At rs (i + T0.length) U x ∧ T0.length + U.length = W.length ∧
      ((T0 = tkl t ∧ U = tkls ts ∧ W = tkl t ++ tkls ts ∧ x.kd ≠ ("(" : Str)) ∨ (Pre W (tkl t ++ tkls ts) ∧ BadK x.kd ∧ (Pre U (tkls ts) ∨ U = []))) ∧ (Pre T0 (tkl t) → Pre W (tkl t ++ tkls ts) ∧ x0 = x) := by
  have go : ∀ U : List Tk, W = tkl t ++ U → (U = tkls ts ∨ Pre U (tkls ts)) → (U = [] → BadK x.kd) → ∃ x0, At rs i (tkl t) x0 ∧ x0.kd ≠ ("(" : Str) ∧ At rs (i + (tkl t).length) U x := fun U e hu hb => by
    rw [e] at ha
    obtain ⟨x0, h0, hx⟩ := ha.pre
    refine ⟨x0, h0, ?_, ha.drop⟩
    rcases hx with ⟨e1, e2⟩ | ⟨u, U', e1, e2⟩
    · rw [e2]; exact (hb e1).op
    · rw [e2]
      rw [e1] at hu
      exact tkls_head hu
  rcases md with ⟨e, nk⟩ | ⟨hp, hb⟩
  · obtain ⟨x0, h0, n0, hU⟩ := go (tkls ts) e (.inl rfl) (fun z => by cases ts <;> cases z)
    exact ⟨tkl t, x0, tkls ts, h0, .inl ⟨rfl, n0⟩, hU, by rw [e, List.length_append], .inl ⟨rfl, rfl, e, nk⟩, fun z => (pre_irr z).elim⟩
  · rcases pre_app hp with h | ⟨U, e, h⟩
    · exact ⟨W, x, [], ha, .inr ⟨h, hb⟩, At.drop (U := []) (by rw [List.append_nil]; exact ha), rfl, .inr ⟨hp, hb, .inr rfl⟩, fun _ => ⟨hp, rfl⟩⟩
    · obtain ⟨x0, h0, n0, hU⟩ := go U e (.inr h) fun _ => hb
      exact ⟨tkl t, x0, U, h0, .inl ⟨rfl, n0⟩, hU, by rw [e, List.length_append], .inr ⟨hp, hb, .inl h⟩, fun z => (pre_irr z).elim⟩
end J
namespace J
open PySem L2
/-- the first row of what is left -/
def hdRow (C : List (Option Tk)) (m : Nat) : Rw := match C with
  | some u :: _ => ⟨u.kd, u.txt, m⟩
  | _ => ⟨"end", "", m⟩
theorem lay_len_some (t : Tk) (A : List (Option Tk)) : (lay (some t :: A)).length = t.txt.length + (lay A).length := by
  show (cods t.txt ++ lay A).length = _
  rw [List.length_append]; rfl
theorem rows_split : ∀ (A C : List (Option Tk)) (n : Nat), ∃ pre : List Rw, rowsOf n (A ++ C) = pre ++ rowsOf (n + (lay A).length) C ∧ pre.map Rw.kw = (A.filterMap id).map Tk.kw
  | [], _, _ => ⟨[], rfl, rfl⟩
  | none :: A, C, n => by
    obtain ⟨pre, e1, e2⟩ := rows_split A C (n + 1)
    refine ⟨pre, ?_, e2⟩
    show rowsOf (n + 1) (A ++ C) = pre ++ rowsOf (n + ((lay A).length + 1)) C
    rw [e1, show n + 1 + (lay A).length = n + ((lay A).length + 1) by omega]
  | some t :: A, C, n => by
    obtain ⟨pre, e1, e2⟩ := rows_split A C (n + t.txt.length)
    refine ⟨⟨t.kd, t.txt, n⟩ :: pre, ?_, ?_⟩
    · show ⟨t.kd, t.txt, n⟩ :: rowsOf (n + t.txt.length) (A ++ C) = ⟨t.kd, t.txt, n⟩ :: (pre ++ rowsOf (n + (lay (some t :: A)).length) C)
      rw [e1, lay_len_some, show n + t.txt.length + (lay A).length = n + (t.txt.length + (lay A).length) by omega]
    · show (t.kd, t.txt) :: pre.map Rw.kw = _
      rw [e2]; rfl
theorem rows_at (A C : List (Option Tk)) (h : C.head? ≠ some none) : At (rowsOf 0 (A ++ C)) 0 (A.filterMap id) (hdRow C (lay A).length) := by
  obtain ⟨pre, e1, e2⟩ := rows_split A C 0
  rw [Nat.zero_add] at e1
  have el : pre.length = (A.filterMap id).length := by
    have := congrArg List.length e2
    rw [List.length_map, List.length_map] at this
    exact this
  have hr : ∃ R, rowsOf (lay A).length C = hdRow C (lay A).length :: R := by
    cases C with
    | nil => exact ⟨[], rfl⟩
    | cons o C =>
      cases o with
      | none => exact absurd rfl h
      | some u => exact ⟨_, rfl⟩
  obtain ⟨R, hr⟩ := hr
  refine ⟨R.map Rw.kw, ?_, ?_⟩
  · rw [List.drop_zero, e1, hr, List.map_append, e2]; rfl
  · rw [e1, hr, Nat.zero_add, ← el, List.getElem?_append_right (Nat.le_refl _), Nat.sub_self]; rfl
end J
namespace J
open PySem L2
/-- where the reader of a term stops -/
def Stop (T : List Tk) (t : Tm) (k : Str) : Prop := (T = tkl t ∧ k ≠ ("(" : Str) ∧ k ≠ ("end" : Str)) ∨ (Pre T (tkl t) ∧ BadK k ∧ (k ≠ ("end" : Str) ∨ ∀ f, T ≠ [.nm f]))
end J
namespace J
open PySem L2
theorem sep_app : ∀ {A B : List (Option Tk)}, Sep A → Sep B → (∀ b, B.head? = some (some b) → b.isW = false) → Sep (A ++ B)
  | [], _, _, hB, _ => hB
  | none :: A, B, hA, hB, hb => sep_app (A := A) hA hB hb
  | some t :: A, B, hA, hB, hb => by
    refine ⟨fun w b e => ?_, sep_app (A := A) hA.2 hB hb⟩
    cases A with
    | nil => exact hb b e
    | cons o A => exact hA.1 w b e
theorem sep_blanks : ∀ k : Nat, Sep (List.replicate k none)
  | 0 => trivial
  | k + 1 => sep_blanks k
theorem noAdj_take : ∀ (n : Nat) {T : List Tk}, NoAdj T → NoAdj (T.take n)
  | 0, _, _ => trivial
  | _ + 1, [], _ => trivial
  | n + 1, t :: T, h => by
    refine ⟨fun w b e => h.1 w b ?_, noAdj_take n h.2⟩
    cases T with
    | nil => rw [List.take_nil] at e; cases e
    | cons u T => cases n with
      | zero => cases e
      | succ n => exact e
theorem noAdj_drop : ∀ (n : Nat) {T : List Tk}, NoAdj T → NoAdj (T.drop n)
  | 0, _, h => h
  | _ + 1, [], _ => trivial
  | n + 1, _ :: _, h => noAdj_drop n h.2
theorem noAdj_tm (t : Tm) : NoAdj (tkl t) := by
  have := noAdj_tkl t [] (fun b hb => nomatch hb) trivial
  rw [List.append_nil] at this
  exact this
theorem tkl_4 (t : Tm) : (∃ k, tkl t = [k] ∧ k.isW = true) ∨ 4 ≤ (tkl t).length := by
  cases t with
  | var n => exact .inl ⟨_, rfl, rfl⟩
  | app f ts =>
    cases ts with
    | nil => exact .inl ⟨_, rfl, rfl⟩
    | cons t ts =>
      refine .inr ?_
      have h1 : 1 ≤ (tkl t).length := by
        cases t with
        | var n => exact Nat.le_refl 1
        | app g us => cases us with
          | nil => exact Nat.le_refl 1
          | cons u us => show 1 ≤ (tkl u ++ tkls us).length + 1 + 1; omega
      have h2 : 1 ≤ (tkls ts).length := by
        cases ts with
        | nil => exact Nat.le_refl 1
        | cons u us => show 1 ≤ (tkl u ++ tkls us).length + 1; omega
      show 4 ≤ (tkl t ++ tkls ts).length + 1 + 1
      rw [List.length_append]
      omega
def badAll : List Str := ["!", "_", "x20", "x01", "x123", "A", "aB", "a1", "abcdefghi", "0", "+", "&", "1x", "xx1", "x0a"]
theorem badAll_ok : ∀ z ∈ badAll, ∃ w, (Tk.bd z w).Ok := by
  have q : ∀ z ∈ badAll, z ∈ badW ∨ ∃ c ∈ [33, 95, 43, 38], z = (⟨#[c]⟩ : Str) := by decide +kernel
  intro z hz
  rcases q z hz with h | h
  · exact ⟨true, h⟩
  · exact ⟨false, h⟩
theorem bad_unread : BadK ("unreadable" : Str) ∧ ("unreadable" : Str) ≠ "(" ∧ ("unreadable" : Str) ≠ "end" ∧ BadK ("end" : Str) ∧ ("end" : Str) ≠ "(" ∧ ("end" : Str) ≠ "=" := by unfold BadK; decide +kernel
def extras : List Tk := [.sg 41, .sg 44, .nm "a", .vr 0]
theorem extras_kd : (extras.map fun x => x.kd) = [(")" : Str), ",", "name", "variable"] := by decide +kernel
theorem extras_ok (i : Fin 4) : ∃ x, extras[i.val]? = some x ∧ x.kd ≠ ("(" : Str) ∧ x.kd ≠ ("end" : Str) := by
  have hi : i.val < extras.length := i.isLt
  refine ⟨_, List.getElem?_eq_getElem hi, ?_⟩
  have m : (extras[i.val]).kd ∈ (extras.map fun x => x.kd) := List.mem_map.mpr ⟨_, List.getElem_mem hi, rfl⟩
  rw [extras_kd] at m
  have q : ∀ k ∈ [(")" : Str), ",", "name", "variable"], k ≠ ("(" : Str) ∧ k ≠ ("end" : Str) := by decide +kernel
  exact q _ m
theorem extra_mem {x : Tk} (h : x ∈ extras) : x.Ok := by
  have h : x ∈ [Tk.sg 41, .sg 44, .nm "a", .vr 0] := h
  rcases List.mem_cons.mp h with e | h
  · rw [e]; show 41 ∈ [40, 41, 44, 61]; decide
  · rcases List.mem_cons.mp h with e | h
    · rw [e]; show 44 ∈ [40, 41, 44, 61]; decide
    · rcases List.mem_cons.mp h with e | h
      · rw [e]; show Low ("a" : Str) ∧ 1 ≤ ("a" : Str).length ∧ ("a" : Str).length ≤ 8; exact ⟨by unfold Low; decide +kernel, by decide +kernel, by decide +kernel⟩
      · rw [List.mem_singleton.mp h]; show 0 < 20; decide
end J
namespace J
open PySem L2
theorem tkcut_from (xs : List V) (f : Nat) (h : f ≤ xs.length) : cutV xs (some (f : Int)) none = xs.drop f := by
  unfold cutV
  rw [HT.sIx_nat, HT.sIx_none, Nat.min_eq_left h]
  exact List.take_of_length_le (by rw [List.length_drop]; exact Nat.le_refl _)
theorem tkcut_to (xs : List V) (f : Nat) (h : f ≤ xs.length) : cutV xs none (some (f : Int)) = xs.take f := by
  unfold cutV
  rw [HT.sIx_none, HT.sIx_nat, Nat.min_eq_left h]; rfl
theorem blank_cods : cods (" " : Str) = [32] := by decide +kernel
theorem cods_app (x y : Str) : cods (x ++ y) = cods x ++ cods y := tl_app x y
theorem cods_len (x : Str) : x.length = (cods x).length := len_tl x
end J

/-! ### symbols, variables, substitutions -/
namespace J
open PySem L2
mutual
def syms : Tm → List V
  | .var n => [.int n]
  | .app f ts => .str f :: symss ts
def symss : List Tm → List V
  | [] => []
  | t :: ts => syms t ++ symss ts
end
mutual
/-- the occurrences of variables, from left to right -/
def occ : Tm → List Int
  | .var n => [n]
  | .app _ ts => occs ts
def occs : List Tm → List Int
  | [] => []
  | t :: ts => occ t ++ occs ts
end
/-- one by one, what is not there yet -/
def adds (acc : List Int) : List Int → List Int
  | [] => acc
  | n :: r => adds (if n ∈ acc then acc else acc ++ [n]) r
def vars (t : Tm) : List Int := adds [] (occ t)
theorem adds_app : ∀ (l1 l2 acc : List Int), adds acc (l1 ++ l2) = adds (adds acc l1) l2
  | [], _, _ => rfl
  | n :: r, l2, acc => by show adds _ (r ++ l2) = adds (adds _ r) l2; rw [adds_app r l2]
theorem adds_mem : ∀ (l acc : List Int) {n : Int}, n ∈ adds acc l ↔ n ∈ acc ∨ n ∈ l
  | [], acc, n => by show n ∈ acc ↔ _; simp
  | k :: r, acc, n => by
    show n ∈ adds _ r ↔ _
    rw [adds_mem r]
    by_cases h : k ∈ acc
    · rw [if_pos h, List.mem_cons]
      constructor
      · rintro (a | a)
        · exact .inl a
        · exact .inr (.inr a)
      · rintro (a | a | a)
        · exact .inl a
        · exact .inl (a ▸ h)
        · exact .inr a
    · rw [if_neg h, List.mem_append, List.mem_singleton, List.mem_cons]
      constructor
      · rintro ((a | a) | a)
        · exact .inl a
        · exact .inr (.inl a)
        · exact .inr (.inr a)
      · rintro (a | a | a)
        · exact .inl (.inl a)
        · exact .inl (.inr a)
        · exact .inr a
theorem adds_nodup : ∀ (l acc : List Int), acc.Nodup → (adds acc l).Nodup
  | [], _, h => h
  | k :: r, acc, h => by
    show (adds _ r).Nodup
    refine adds_nodup r _ ?_
    by_cases hk : k ∈ acc
    · rw [if_pos hk]; exact h
    · rw [if_neg hk]
      refine List.nodup_append.mpr ⟨h, (by simp), fun a ha b hb => ?_⟩
      rw [List.mem_singleton] at hb
      exact fun e => hk (by rw [← hb, ← e]; exact ha)
theorem adds_two : ∀ (l b acc : List Int), adds acc (adds b l) = adds (adds acc b) l
  | [], _, _ => rfl
  | n :: r, b, acc => by
    show adds acc (adds _ r) = adds _ r
    rw [adds_two r]
    by_cases h : n ∈ b
    · rw [if_pos h, if_pos ((adds_mem b acc).mpr (.inr h))]
    · rw [if_neg h, adds_app]
      rfl
theorem adds_len : ∀ (l acc : List Int), (adds acc l).length ≤ acc.length + l.length
  | [], _ => Nat.le_refl _
  | n :: r, acc => by
    have := adds_len r (if n ∈ acc then acc else acc ++ [n])
    show (adds _ r).length ≤ acc.length + (r.length + 1)
    have h2 : (if n ∈ acc then acc else acc ++ [n]).length ≤ acc.length + 1 := by
      by_cases h : n ∈ acc
      · rw [if_pos h]; omega
      · rw [if_neg h, List.length_append]; exact Nat.le_refl _
    omega
def intsOf (l : List V) : List Int := l.filterMap fun v => match v with | .int n => some n | _ => none
theorem intsOf_app (a b : List V) : intsOf (a ++ b) = intsOf a ++ intsOf b := List.filterMap_append ..
mutual
theorem ints_syms : ∀ t : Tm, intsOf (syms t) = occ t
  | .var n => rfl
  | .app f ts => by show intsOf (symss ts) = occs ts; exact ints_symss ts
theorem ints_symss : ∀ ts : List Tm, intsOf (symss ts) = occs ts
  | [] => rfl
  | t :: ts => by show intsOf (syms t ++ symss ts) = occ t ++ occs ts; rw [intsOf_app, ints_syms t, ints_symss ts]
end
mutual
theorem syms_len : ∀ t : Tm, (syms t).length = t.sz
  | .var _ => rfl
  | .app f ts => by show (symss ts).length + 1 = 1 + Tm.szs ts; rw [symss_len ts]; omega
theorem symss_len : ∀ ts : List Tm, (symss ts).length = Tm.szs ts
  | [] => rfl
  | t :: ts => by show (syms t ++ symss ts).length = t.sz + Tm.szs ts; rw [List.length_append, syms_len t, symss_len ts]
end
mutual
theorem occ_len : ∀ t : Tm, (occ t).length ≤ t.sz
  | .var _ => Nat.le_refl _
  | .app f ts => by show (occs ts).length ≤ 1 + Tm.szs ts; have := occs_len ts; omega
theorem occs_len : ∀ ts : List Tm, (occs ts).length ≤ Tm.szs ts
  | [] => Nat.le_refl _
  | t :: ts => by show (occ t ++ occs ts).length ≤ t.sz + Tm.szs ts; have := occ_len t; have := occs_len ts; rw [List.length_append]; omega
end
theorem symss_app : ∀ a b : List Tm, symss (a ++ b) = symss a ++ symss b
  | [], _ => rfl
  | t :: ts, b => by show syms t ++ symss (ts ++ b) = (syms t ++ symss ts) ++ symss b; rw [symss_app ts b, List.append_assoc]
theorem szs_app : ∀ a b : List Tm, Tm.szs (a ++ b) = Tm.szs a + Tm.szs b
  | [], _ => by show _ = 0 + _; rw [Nat.zero_add]; rfl
  | t :: ts, b => by show t.sz + Tm.szs (ts ++ b) = (t.sz + Tm.szs ts) + Tm.szs b; rw [szs_app ts b]; omega
theorem szs_rev : ∀ a : List Tm, Tm.szs a.reverse = Tm.szs a
  | [] => rfl
  | t :: ts => by
    rw [List.reverse_cons, szs_app, szs_rev ts]
    show Tm.szs ts + (t.sz + 0) = t.sz + Tm.szs ts
    omega
theorem TmsIn.rev {H : Hp} : ∀ {ts : List Tm} {vs : List V}, TmsIn H ts vs → TmsIn H ts.reverse vs.reverse
  | [], _, h => by cases (show _ = [] from h); rfl
  | t :: ts, _, ⟨v, r, rfl, h, q⟩ => by
    rw [List.reverse_cons, List.reverse_cons]
    exact TmsIn.append (TmsIn.rev q) (TmsIn.one h)
theorem TmsIn.snoc {H : Hp} {ts : List Tm} {vs : List V} {v : V} (h : TmsIn H ts vs) (e : vs[vs.length - 1]? = some v) : ∃ us t, ts = us ++ [t] ∧ TmIn H t v ∧ TmsIn H us vs.dropLast := by
  have hl := h.length
  rcases List.eq_nil_or_concat ts with z | ⟨us, t, z⟩
  · subst z
    have : vs = [] := List.length_eq_zero_iff.mp (by rw [hl]; rfl)
    subst this
    simp at e
  · rw [List.concat_eq_append] at z
    subst z
    have hn : vs ≠ [] := fun w => by rw [w] at hl; simp at hl
    have e2 : vs = vs.dropLast ++ [v] := by
      have h1 := List.dropLast_concat_getLast hn
      have h2 : vs.getLast hn = v := by
        rw [List.getLast_eq_getElem]
        have := List.getElem?_eq_some_iff.mp e
        exact this.2
      rw [h2] at h1
      exact h1.symm
    have key : ∀ (us : List Tm) (ws : List V) (t : Tm) (v : V), us.length = ws.length → TmsIn H (us ++ [t]) (ws ++ [v]) → TmIn H t v ∧ TmsIn H us ws := by
      intro us
      induction us with
      | nil =>
        intro ws t v hl q
        have : ws = [] := List.length_eq_zero_iff.mp hl.symm
        subst this
        obtain ⟨a, r, e, h1, _⟩ := q
        injection e with e _
        exact ⟨e ▸ h1, rfl⟩
      | cons u us ih =>
        intro ws t v hl q
        match ws, hl with
        | w :: ws, hl =>
          obtain ⟨a, r, e, h1, h2⟩ := q
          injection e with e1 e2
          subst e1
          have := ih ws t v (by simpa using hl) (by rw [← e2] at h2; exact h2)
          exact ⟨this.1, w, ws, rfl, h1, this.2⟩
    rw [e2] at h
    have hl2 : us.length = vs.dropLast.length := by rw [List.length_dropLast, hl, List.length_append]; simp
    have q := key us _ t v hl2 h
    exact ⟨us, t, rfl, q.1, q.2⟩
mutual
theorem Tm.dep_le_sz : ∀ t : Tm, t.dep ≤ t.sz
  | .var _ => Nat.le_refl _
  | .app _ ts => by show 1 + Tm.deps ts ≤ 1 + Tm.szs ts; have := Tm.deps_le_szs ts; omega
theorem Tm.deps_le_szs : ∀ ts : List Tm, Tm.deps ts ≤ Tm.szs ts
  | [] => Nat.le_refl _
  | t :: ts => by show max t.dep (Tm.deps ts) ≤ t.sz + Tm.szs ts; have := Tm.dep_le_sz t; have := Tm.deps_le_szs ts; omega
end
theorem occs_app : ∀ a b : List Tm, occs (a ++ b) = occs a ++ occs b
  | [], _ => rfl
  | t :: ts, b => by show occ t ++ occs (ts ++ b) = (occ t ++ occs ts) ++ occs b; rw [occs_app ts b, List.append_assoc]
theorem szs_take (ts : List Tm) (i : Nat) : Tm.szs (ts.take i) ≤ Tm.szs ts := by
  have h := szs_app (ts.take i) (ts.drop i)
  rw [List.take_append_drop] at h
  omega
theorem map_get {l : List Int} {i : Nat} {y : V} (h : (l.map V.int)[i]? = some y) : ∃ n, l[i]? = some n ∧ y = .int n := by
  rw [List.getElem?_map] at h
  cases e : l[i]? with
  | none => rw [e] at h; cases h
  | some n => rw [e] at h; exact ⟨n, rfl, (Option.some.inj h).symm⟩
theorem inV_ints (n : Int) : ∀ l : List Int, inV (.int n) (l.map V.int) = decide (n ∈ l) := by
  intro l
  unfold inV
  rw [List.any_map]
  refine Bool.eq_iff_iff.mpr ?_
  rw [List.any_eq_true, decide_eq_true_iff]
  constructor
  · rintro ⟨x, hx, e⟩
    have e : (x == n) = true := e
    rw [← eq_of_beq e]; exact hx
  · intro h
    exact ⟨n, h, beq_self_eq_true n⟩
mutual
theorem syms_kind : ∀ (t : Tm) (y : V), y ∈ syms t → (∃ n, y = .int n) ∨ ∃ f, y = .str f
  | .var n, y, h => .inl ⟨n, by simpa [syms] using h⟩
  | .app f ts, y, h => by
    rcases List.mem_cons.mp (show y ∈ V.str f :: symss ts from h) with e | h
    · exact .inr ⟨f, e⟩
    · exact symss_kind ts y h
theorem symss_kind : ∀ (ts : List Tm) (y : V), y ∈ symss ts → (∃ n, y = .int n) ∨ ∃ f, y = .str f
  | [], _, h => nomatch h
  | t :: ts, y, h => by
    rcases List.mem_append.mp (show y ∈ syms t ++ symss ts from h) with h | h
    · exact syms_kind t y h
    · exact symss_kind ts y h
end
/-- a dict of True by ints -/
def kd (l : List Int) : List (Key × V) := l.map fun n => (.inl n, .bl true)
theorem kd_val (l : List Int) (n : Int) : valV (kd l) (.inl n) = if n ∈ l then some (.bl true) else none := by
  induction l with
  | nil => rfl
  | cons a r ih =>
    by_cases h : a = n
    · subst h
      rw [if_pos (List.mem_cons_self ..)]
      exact valV_pos (p := ((.inl a : Key), V.bl true)) rfl
    · have e : ¬ ((Sum.inl a : Key) = .inl n) := fun z => h (Sum.inl.inj z)
      show valV (((.inl a : Key), V.bl true) :: kd r) (.inl n) = _
      rw [valV_neg e, ih]
      by_cases h2 : n ∈ r
      · rw [if_pos h2, if_pos (List.mem_cons_of_mem _ h2)]
      · rw [if_neg h2, if_neg fun z => (List.mem_cons.mp z).elim (fun z => h z.symm) h2]
theorem kd_put (l : List Int) (n : Int) : putK (kd l) (.inl n) (.bl true) = kd (if n ∈ l then l else l ++ [n]) := by
  by_cases h : n ∈ l
  · rw [if_pos h]
    unfold putK
    rw [if_pos (by rw [valV_any, kd_val, if_pos h]; rfl)]
    unfold kd
    rw [List.map_map]
    refine List.map_congr_left fun a _ => ?_
    show (if (Sum.inl a : Key) = .inl n then ((Sum.inl a : Key), V.bl true) else _) = _
    by_cases e : (Sum.inl a : Key) = .inl n
    · rw [if_pos e]
    · rw [if_neg e]
  · rw [if_neg h, putK_new _ (by rw [kd_val, if_neg h])]
    unfold kd
    rw [List.map_append]; rfl
theorem kd_len (l : List Int) : (kd l).length = l.length := List.length_map _

/-! substitutions -/
mutual
def sub (m : Int → Option Tm) : Tm → Tm
  | .var n => (m n).getD (.var n)
  | .app f ts => .app f (subs m ts)
def subs (m : Int → Option Tm) : List Tm → List Tm
  | [] => []
  | t :: ts => sub m t :: subs m ts
end
theorem subs_map (m : Int → Option Tm) : ∀ ts, subs m ts = ts.map (sub m)
  | [] => rfl
  | t :: ts => by show sub m t :: subs m ts = _; rw [subs_map m ts]; rfl
/-- the dict at d says what m says -/
def SbIn (H : Hp) (d : Addr) (m : Int → Option Tm) : Prop := ∃ kvs : List (Key × V), H d = some (.dK kvs) ∧ ∀ n, match m n with
  | none => valV kvs (.inl n) = none
  | some t => ∃ v, valV kvs (.inl n) = some v ∧ TmIn H t v
theorem SbIn.mono {H H' : Hp} {d : Addr} {m : Int → Option Tm} (h : SbIn H d m) (t : Tu H H') (e : ∀ kvs, H d = some (.dK kvs) → H' d = some (.dK kvs)) : SbIn H' d m := by
  obtain ⟨kvs, h1, h2⟩ := h
  refine ⟨kvs, e _ h1, fun n => ?_⟩
  have := h2 n
  cases hm : m n with
  | none => rw [hm] at this; exact this
  | some u =>
    rw [hm] at this
    obtain ⟨v, a, b⟩ := this
    exact ⟨v, a, b.tu t⟩
theorem SbIn.same {H H' : Hp} {d : Addr} {m : Int → Option Tm} (h : SbIn H d m) (s : Same H H') : SbIn H' d m := h.mono (tu_same s) fun _ e => s _ _ e
theorem SbIn.at {H : Hp} {d : Addr} {m : Int → Option Tm} (h : SbIn H d m) : ∃ kvs, H d = some (.dK kvs) := let ⟨k, e, _⟩ := h; ⟨k, e⟩
/-- d.get(n, n) -/
theorem SbIn.get {H : Hp} {d : Addr} {m : Int → Option Tm} (h : SbIn H d m) (n : Int) : ∃ o, DGet H d (.int n) o ∧ TmIn H ((m n).getD (.var n)) (o.getD (.int n)) := by
  obtain ⟨kvs, h1, h2⟩ := h
  have := h2 n
  refine ⟨valV kvs (.inl n), DGet.k (k := Sum.inl n) h1, ?_⟩
  cases hm : m n with
  | none => rw [hm] at this; rw [this]; rfl
  | some u =>
    rw [hm] at this
    obtain ⟨v, a, b⟩ := this
    rw [a]; exact b
theorem SbIn.put {H : Hp} {d : Addr} {m : Int → Option Tm} {kvs : List (Key × V)} (h1 : H d = some (.dK kvs)) (h2 : ∀ n, match m n with | none => valV kvs (.inl n) = none | some t => ∃ v, valV kvs (.inl n) = some v ∧ TmIn H t v)
    {H' : Hp} (tu : Tu H H') {k : Int} {t : Tm} {v : V} (ht : TmIn H' t v) (e : H' d = some (.dK (putK kvs (.inl k) v))) : SbIn H' d (fun n => if n = k then some t else m n) := by
  refine ⟨_, e, fun n => ?_⟩
  have := h2 n
  rw [valV_put]
  by_cases hn : n = k
  · subst hn
    simp only [if_true]
    exact ⟨v, rfl, ht⟩
  · have hn' : ¬ ((Sum.inl n : Key) = .inl k) := fun z => hn (Sum.inl.inj z)
    simp only [if_neg hn, if_neg hn']
    cases hm : m n with
    | none => rw [hm] at this; exact this
    | some u =>
      rw [hm] at this
      obtain ⟨w, a, b⟩ := this
      exact ⟨w, a, b.tu tu⟩

/-! while xs: -/
theorem while_list {K : PySem.W.Frag} {i : Nat} {tb : TS} {D : Ends} {σ : L2.St} {H : Hp} (Pv : L2.St → Hp → Prop) (μ : L2.St → Hp → Nat) (h0 : Pv σ H)
    (hs : ∀ σ H, Pv σ H → ∃ p xs, σ[i]? = some (some (.ref p)) ∧ H p = some (.lst xs) ∧ (xs = [] → D.nx σ H) ∧ (xs ≠ [] → tb { D with nx := fun σ' H' => Pv σ' H' ∧ μ σ' H' < μ σ H, ct := fun σ' H' => Pv σ' H' ∧ μ σ' H' < μ σ H, bk := D.nx } σ H)) :
    tWhile (fun σ H Q => tVar i σ H fun x H' => ∃ k, TruV K x H' k ∧ Q k H') tb D σ H := by
  refine while_by Pv μ h0 (fun σ H p => ?_) fun σ H Q Q' m ⟨v, e, k, t, q⟩ => ⟨v, e, k, t, m _ _ q⟩
  obtain ⟨a, xs, e, hp, h1, h2⟩ := hs σ H p
  refine ⟨_, e, _, .inl ⟨xs, SqL.of hp, rfl⟩, ?_⟩
  cases xs with
  | nil => exact h1 rfl
  | cons x xs => exact h2 (List.cons_ne_nil _ _)
end J

/-! ### rules of our own: a list extended by a tuple, t[:0:-1] -/
namespace J
open PySem L2 PyProof.Rows
section
open PySem PySem.Builtin
theorem ext_tup (l : Addr) (xs : Array Value) (n : Nat) (b : Addr) (ys : Array Value) (m : Nat) (d : Option Addr) (sl : Array (Option Value))
    (h0 : ¬(!xs.isEmpty && Builtin.List.listTooLong (xs.size + ys.size)) = true) (h1 : xs.size ≤ sizeLine) (h2 : xs.size + ys.size ≤ sizeLine + 1) :
    Meets (Builtin.«list.extend» ⟨[.ref l, .ref b], []⟩) (fun _ R s => s.heap.get? l = some ⟨.type "list", none, .seq xs n, #[]⟩ ∧ s.heap.get? b = some ⟨.type "tuple", d, .seq ys m, sl⟩ ∧
      R (.ok (.ret Value.none)) { s with heap := s.heap.update l (Obj.mapSeq fun x => x ++ ys), toks := s.toks }) := by
  refine .of_wp fun prog w A R s h => ?_
  obtain ⟨hp, g, dd, tk, os⟩ := s
  obtain ⟨hl, hb, h⟩ := h
  have f1 := AutoSeq1.idx_int
  have f2 := AutoSeq1.sub_tuple_tuple
  have f4 := AutoSeq1.sub_tuple_list
  have f5 := AutoSeq1.sub_list_tuple
  have f3 := AutoSeq1.sub_list_list
  have hz' : (xs ++ ys).size ≤ sizeLine + 1 := by rw [Array.size_append]; exact h2
  wp_walk using (wpAny_updateSeq hl rfl (hz := h1) (_hz' := hz')), AutoSeq1.wpAny_loadPart' hl, AutoSeq1.wpAny_loadPart' hb
  exact ⟨_, rfl, h⟩
end
def rExtT (K : PySem.W.Frag) : V → List V → Hp → VK → Prop := fun x vs H Q => ∃ l b xs zs, x = .ref l ∧ vs = [.ref b] ∧ H l = some (.lst xs) ∧ SqT K H b zs ∧ xs.length + zs.length ≤ sizeLine ∧ Q .non (upd H l (.lst (xs ++ zs)))
section
variable {X : Cx}
theorem mt_extT : MtM X "list.extend" (rExtT X.K) := by
  intro pins s σ H x vs v us Q I rx rv h
  obtain ⟨l, b, xs, zs, rfl, rfl, hH, hB, hz, q⟩ := h
  cases rx
  obtain ⟨u, rfl, ru⟩ := rv.one
  cases ru
  obtain ⟨_, its, n, r, hl, e⟩ := I.lstM hH
  obtain ⟨its2, r2, ⟨o, ho, hc, m, hd⟩, _⟩ := I.tuple hB
  have hl2 := r2.length
  obtain ⟨oc, od, oda, osl⟩ := o
  cases hc
  cases hd
  have sz : its.toArray.size + its2.toArray.size ≤ sizeLine := by rw [List.size_toArray, List.size_toArray, ← hl, ← hl2]; exact hz
  have door : ¬ (!its.toArray.isEmpty && Builtin.List.listTooLong (its.toArray.size + its2.toArray.size)) = true := by
    rw [notLongL sz, Bool.and_false]; exact Bool.false_ne_true
  refine call_meets F.slot_list_extend ⟨_, e, rfl⟩ F.entry_list_extend (F.args_list_extend_2 _ _) (ext_tup l its.toArray n b its2.toArray m od osl door (by omega) (by omega)) ⟨e, ho, ?_⟩
  refine ⟨.non, _, I.lset (its' := its ++ its2) hH e (by simp) (r.append r2) ?_, rfl, q⟩
  rw [List.length_append]; exact hz
end

/-! t[:0:-1] -/
theorem adj_rev (n : Nat) : Builtin.Slice.sliceAdjust none (some 0) (-1) ((n + 1 : Nat) : Int) = ((n : Int), 0) := by
  unfold Builtin.Slice.sliceAdjust
  simp only [show ((-1 : Int) < 0) = True from eq_true (by decide), if_true]
  have e1 : ¬ ((0 : Int) < 0) := by decide
  rw [if_neg e1]
  refine Prod.ext ?_ ?_
  · show ((n + 1 : Nat) : Int) - 1 = n
    omega
  · show min (0 : Int) (((n + 1 : Nat) : Int) - 1) = 0
    omega
theorem places_rev (n : Nat) : Builtin.Slice.slicePlaces (n : Int) 0 (-1) = n := by
  unfold Builtin.Slice.slicePlaces
  rw [if_neg (by decide : ¬ ((-1 : Int) > 0))]
  by_cases h : (n : Int) > 0
  · rw [if_pos h, show (- -1 : Int) = 1 by decide, Int.ediv_one]
    omega
  · rw [if_neg h]; omega
section
variable {prog : Program} {w : World} {A : Around} {E : Value → Shared → Prop} {s : Shared}
theorem applied_rev {sl : Addr} {vu vs : Value} {n : Nat} {Q : Int × Int × Nat → Shared → Prop} (hs : s.heap.IsSliceOf sl .none vu vs) (pu : IsPart vu (some 0)) (ps : IsPart vs (some (-1)))
    (h : Q ((n : Int), -1, n) s) : wpAny (model prog w) A (Builtin.Slice.sliceApplied (.ref sl) (pure ((n + 1 : Nat) : Int))) Q E s := by
  obtain ⟨os, hos, hcs, hds⟩ := id hs
  unfold Builtin.Slice.sliceApplied Builtin.Slice.sliceFields
  refine wpAny_bind (wpAny_bind (wpAny_field hos hds (x := .none) rfl (wpAny_bind (wpAny_field hos hds (x := vu) rfl (wpAny_bind (wpAny_field hos hds (x := vs) rfl (wpAny_pure ?_)))))))
  refine wpAny_bind (HT.slicePart_ ps ?_)
  show wpAny _ _ (if ((-1 : Int) == 0) = true then _ else _) _ _ s
  rw [if_neg (by decide)]
  refine wpAny_bind (slicePart_none (wpAny_bind (HT.slicePart_ pu (wpAny_bind (wpAny_pure ?_)))))
  show wpAny _ _ (match Builtin.Slice.sliceAdjust none (some 0) (-1) ((n + 1 : Nat) : Int) with | (lo, hi) => pure (lo, (-1 : Int), Builtin.Slice.slicePlaces lo hi (-1))) _ _ s
  rw [adj_rev]
  show wpAny _ _ (pure ((n : Int), (-1 : Int), Builtin.Slice.slicePlaces (n : Int) 0 (-1))) _ _ s
  rw [places_rev]
  exact wpAny_pure h
theorem fm_congr {α β : Type} {f g : α → Option β} : ∀ {l : List α}, (∀ k ∈ l, f k = g k) → l.filterMap f = l.filterMap g
  | [], _ => rfl
  | a :: l, h => by
    rw [List.filterMap_cons, List.filterMap_cons, h a (List.mem_cons_self ..), fm_congr fun k hk => h k (List.mem_cons_of_mem _ hk)]
theorem pick_rev (x : Value) (xs : List Value) : ((List.range xs.length).filterMap fun (k : Nat) => (x :: xs).toArray[((xs.length : Int) + (k : Int) * -1).toNat]?) = xs.reverse := by
  have e : ∀ (l : List Nat), (∀ k ∈ l, k < xs.length) → (l.filterMap fun (k : Nat) => (x :: xs).toArray[((xs.length : Int) + (k : Int) * -1).toNat]?) = l.filterMap fun k => xs[xs.length - 1 - k]? := by
    intro l hl
    refine fm_congr fun k hk => ?_
    have h1 := hl k hk
    have e1 : ((xs.length : Int) + (k : Int) * -1).toNat = (xs.length - 1 - k) + 1 := by omega
    rw [e1]
    show ((x :: xs).toArray[(xs.length - 1 - k) + 1]?) = _
    rw [List.getElem?_toArray, List.getElem?_cons_succ]
  rw [e _ fun k hk => List.mem_range.mp hk]
  have e2 : ∀ (l : List Nat), (∀ k ∈ l, k < xs.length) → (l.filterMap fun k => xs[xs.length - 1 - k]?) = l.filterMap fun k => xs.reverse[k]? := by
    intro l hl
    refine fm_congr fun k hk => ?_
    rw [List.getElem?_reverse (hl k hk)]
  rw [e2 _ fun k hk => List.mem_range.mp hk]
  have e3 : ∀ (ys : List Value), ((List.range ys.length).filterMap fun k => ys[k]?) = ys := by
    intro ys
    have := PySem.W.krv_all ys.toArray
    simpa using this
  have := e3 xs.reverse
  rwa [List.length_reverse] at this
theorem item_rev {t sl : Addr} {x : Value} {xs : List Value} {vu vs : Value} {Q : Value → Shared → Prop} (ht : IsTup s.heap t (x :: xs).toArray) (hs : s.heap.IsSliceOf sl .none vu vs) (pu : IsPart vu (some 0)) (ps : IsPart vs (some (-1)))
    (h : Q (.ref s.heap.objs.size) { s with heap := s.heap.push { cls := .type "tuple", data := .seq xs.reverse.toArray } }) (hsz : xs.length ≤ sizeLine) : wpAny (model prog w) A (getItem (.ref t) (.ref sl)) Q E s := by
  have htake : sizeOk (.seq xs.reverse.toArray) := by
    show xs.reverse.toArray.size ≤ sizeLine
    rw [List.size_toArray, List.length_reverse]; exact hsz
  obtain ⟨os, hos, hcs, hds⟩ := id hs
  have hTs : s.TypeIs (.ref sl) "slice" := ⟨os, hos, hcs⟩
  unfold getItem
  try with_reducible refine wpAny_holding ?_
  first | refine wpAny_bind (wpAny_pure ?_) | skip
  refine wpAny_bind (wpAny_sequenceKey ht.typeIs (by decide) ?_)
  refine wpAny_bind (wpAny_callSpecial?_slot (name := Str.ofString "__getitem__") ht.typeIs PyProof.Rows.slot_tuple_getitem
    (wpAny_call_entry PyProof.Rows.slot_tuple_getitem ht.typeIs entry_tuple_getitem ?_ (args_tuple_getitem _ _)))
  show wpAny _ _ (Builtin.Tuple.tupleItemsOf (.ref t) >>= _) _ _ s
  refine wpAny_bind (PyProof.Rows.tupleItemsOf_ ht ?_)
  refine wpAny_bind (wpAny_typeOf hTs ?_)
  rw [if_pos (by decide)]
  have e0 : (x :: xs).toArray.size = xs.length + 1 := by rw [List.size_toArray]; rfl
  rw [e0]
  refine wpAny_bind (applied_rev (n := xs.length) hs pu ps ?_)
  have hno : ¬ (((xs.length : Int) == 0 && ((-1 : Int) == 1) && (xs.length == xs.length + 1)) = true) := by
    intro q
    rw [Bool.and_eq_true, Bool.and_eq_true] at q
    exact absurd q.1.2 (by decide)
  show wpAny _ _ (if ((xs.length : Int) == 0 && ((-1 : Int) == 1) && (xs.length == xs.length + 1)) = true then _ else _) _ _ s
  rw [if_neg hno, pick_rev]
  first
    | exact wpAny_bind (m := Builtin.Tuple.tupleExact _) (wpAny_newObj_type (wpAny_pure ⟨_, rfl, wpAny_pure h⟩) htake)
    | exact wpAny_bind (m := Builtin.Tuple.tupleExact _) (wpAny_newObj_type (wpAny_bind (wpAny_pure (wpAny_pure ⟨_, rfl, wpAny_pure h⟩))) htake)
    | exact wpAny_bind (wpAny_bind (m := Builtin.Tuple.tupleExact _) (wpAny_newObj_type (wpAny_pure (wpAny_pure ⟨_, rfl, wpAny_pure h⟩)) htake))
    | exact wpAny_bind (wpAny_bind (m := Builtin.Tuple.tupleExact _) (wpAny_newObj_type (wpAny_pure ⟨_, rfl, wpAny_pure h⟩) htake))
end
def tRevT (K : PySem.W.Frag) (te : TE) : TE := fun σ H Q => te σ H fun x H1 => ∃ a y ys, x = .ref a ∧ SqT K H1 a (y :: ys) ∧ ∀ p, H1 p = none → Q (.ref p) (upd H1 p (.tup ys.reverse))
theorem pe_revT {X : Cx} {e : Expr} {te : TE} {k k0 : Nat} {p0 p1 p2 p3 pos : Pos} (he : PE X e te) : PE X (.Subscript e (.Slice none (some (.Constant (.int 0) k0 p0)) (some (.UnaryOp .USub (.Constant (.int 1) k p1) p2)) p3) pos) (tRevT X.K te) := by
  refine ⟨fun pins s σ H Q I h => ?_⟩
  refine Subscript_ (thn (he.run pins s σ H _ I h) fun v s1 ⟨x, H1, I1, r1, q1⟩ => ?_)
  obtain ⟨a, y, ys, ex, hx, q⟩ := q1
  subst ex
  cases r1
  have hst : PO X (some (.UnaryOp .USub (.Constant (.int 1) k p1) p2)) (tPart (tUn (rU fun i => .int (-i)) (tC (.int 1)))) := po_some (pe_un un_neg pe_int)
  have hup : PO X (some (.Constant (.int 0) k0 p0)) (tPart (tC (.int 0))) := po_some pe_int
  rw [show (Expr.Slice none (some (.Constant (.int 0) k0 p0)) (some (.UnaryOp .USub (.Constant (.int 1) k p1) p2)) p3) = Expr.Slice none (some (.Constant (.int 0) k0 p0)) (some (.UnaryOp .USub (.Constant (.int 1) k p1) p2)) p3 from rfl]
  refine wpAny_Slice (thn (po_none.run pins s1 σ H1 (fun o H2 => o = none ∧ H2 = H1) I1 ⟨rfl, rfl⟩) fun vl s2 ⟨l, H2, I2, pl, el, e2⟩ => ?_)
  subst el e2
  refine thn (hup.run pins s2 σ H2 (fun o H3 => o = some 0 ∧ H3 = H2) I2 ⟨0, rfl, rfl, rfl⟩) fun vu s3 ⟨u, H3, I3, pu, eu, e3⟩ => ?_
  subst eu e3
  refine thn (hst.run pins s3 σ H3 (fun o H4 => o = some (-1) ∧ H4 = H3) I3 ⟨1, rfl, -1, rfl, rfl, rfl⟩) fun vs s4 ⟨o, H4, I4, ps, eo, e4⟩ => ?_
  subst eo e4
  cases pl
  have I5 : Inv X pins σ H4 { s4 with heap := s4.heap.push { cls := .type "slice", data := .fields #[.none, vu, vs] } } := I4.kept (t' := s4.toks) fun b ob q => Heap.get?_push_of_some _ q
  obtain ⟨its, r, ht, hz⟩ := I5.tuple hx
  match its, r with
  | z :: zs, .cons rz rzs =>
  have hlen := rzs.length
  show wpAny (model X.prog X.w) X.A (subscriptTail e (.Slice none (some (.Constant (.int 0) k0 p0)) (some (.UnaryOp .USub (.Constant (.int 1) k p1) p2)) p3) (.ref a) (.ref s4.heap.objs.size)) (EP X pins σ Q) X.xe { s4 with heap := s4.heap.push { cls := .type "slice", data := .fields #[.none, vu, vs] } }
  refine tail_any (ops := [.ref a, .ref s4.heap.objs.size]) ht.typeIs PyProof.Rows.slot_tuple_getitem.lookup ?_ (by with_unfolding_all rfl)
  have hz' : ys.length ≤ sizeLine := by
    have : ys.length + 1 ≤ sizeLine := hz
    omega
  refine item_rev ht (Heap.IsSliceOf.new _ .none vu vs) pu ps ?_ (by rw [← hlen]; exact hz')
  refine ⟨.ref _, _, I5.laid (t' := s4.toks) (o := .tup ys.reverse) (fun b ob q => Heap.get?_push_of_some _ q) (Nat.le_refl _) ?_, rfl, q _ (I5.hok.fresh (Nat.le_refl _))⟩
  exact ⟨by rw [List.length_reverse]; exact hz', _, L2.Vals.reverse rzs, IsTup.new _ _⟩
end J

/-! ### positions -/
namespace J
open PySem L2
mutual
def poss : Tm → List (List Int)
  | .var _ => [[]]
  | .app _ ts => [] :: posss 1 ts
def posss : Nat → List Tm → List (List Int)
  | _, [] => []
  | k, t :: ts => (poss t).map (fun q => (k : Int) :: q) ++ posss (k + 1) ts
end
/-- q is a position of t -/
def IsPos : List Int → Tm → Prop
  | [], _ => True
  | k :: q, .app _ ts => 1 ≤ k ∧ ∃ t, ts[(k - 1).toNat]? = some t ∧ IsPos q t
  | _ :: _, .var _ => False
def rep (u : Tm) : List Int → Tm → Tm
  | [], _ => u
  | k :: q, .app f ts => .app f (ts.set (k - 1).toNat (rep u q (ts.getD (k - 1).toNat u)))
  | _ :: _, .var n => .var n
/-- the subterm at q -/
def at? : List Int → Tm → Option Tm
  | [], t => some t
  | k :: q, .app _ ts => if 1 ≤ k then (ts[(k - 1).toNat]?).bind (at? q) else none
  | _ :: _, .var _ => none
mutual
theorem poss_is : ∀ (t : Tm) (q : List Int), q ∈ poss t → IsPos q t ∧ q.length < t.dep
  | .var n, q, h => by
    rw [List.mem_singleton.mp (show q ∈ [[]] from h)]
    exact ⟨trivial, Nat.one_pos⟩
  | .app f ts, q, h => by
    rcases List.mem_cons.mp (show q ∈ [] :: posss 1 ts from h) with e | h
    · rw [e]; exact ⟨trivial, Tm.dep_pos (.app f ts)⟩
    · obtain ⟨j, t, r, rfl, ht, h1, h2⟩ := posss_is 1 ts q h
      have hm := Tm.dep_of_mem (List.mem_of_getElem? ht)
      refine ⟨⟨by omega, t, ?_, h1⟩, ?_⟩
      · have : (((1 + j : Nat) : Int) - 1).toNat = j := by omega
        rw [this]; exact ht
      · show r.length + 1 < 1 + Tm.deps ts
        omega
theorem posss_is : ∀ (k : Nat) (ts : List Tm) (q : List Int), q ∈ posss k ts → ∃ (j : Nat) (t : Tm) (r : List Int), q = ((k + j : Nat) : Int) :: r ∧ ts[j]? = some t ∧ IsPos r t ∧ r.length < t.dep
  | _, [], _, h => nomatch h
  | k, t :: ts, q, h => by
    rcases List.mem_append.mp (show q ∈ (poss t).map (fun q => (k : Int) :: q) ++ posss (k + 1) ts from h) with h | h
    · obtain ⟨r, hr, rfl⟩ := List.mem_map.mp h
      have := poss_is t r hr
      exact ⟨0, t, r, rfl, rfl, this.1, this.2⟩
    · obtain ⟨j, u, r, rfl, hu, h1, h2⟩ := posss_is (k + 1) ts q h
      exact ⟨j + 1, u, r, by rw [show k + 1 + j = k + (j + 1) by omega], by rw [List.getElem?_cons_succ]; exact hu, h1, h2⟩
end
mutual
theorem poss_len : ∀ t : Tm, (poss t).length = t.sz
  | .var _ => rfl
  | .app f ts => by show (posss 1 ts).length + 1 = 1 + Tm.szs ts; rw [posss_len 1 ts]; omega
theorem posss_len : ∀ (k : Nat) (ts : List Tm), (posss k ts).length = Tm.szs ts
  | _, [] => rfl
  | k, t :: ts => by
    show ((poss t).map (fun q => (k : Int) :: q) ++ posss (k + 1) ts).length = t.sz + Tm.szs ts
    rw [List.length_append, List.length_map, poss_len t, posss_len (k + 1) ts]
end
theorem posss_app : ∀ (a b : List Tm) (k : Nat), posss k (a ++ b) = posss k a ++ posss (k + a.length) b
  | [], _, _ => rfl
  | t :: ts, b, k => by
    show (poss t).map (fun q => (k : Int) :: q) ++ posss (k + 1) (ts ++ b) = ((poss t).map (fun q => (k : Int) :: q) ++ posss (k + 1) ts) ++ posss (k + (ts.length + 1)) b
    rw [posss_app ts b, List.append_assoc, show k + 1 + ts.length = k + (ts.length + 1) by omega]
/-- a list of tuples of ints -/
def PosIn (H : Hp) (p : Addr) (ps : List (List Int)) : Prop := ∃ as : List Addr, H p = some (.lst (as.map V.ref)) ∧ as.length = ps.length ∧ ∀ (k : Nat) (a : Addr) (q : List Int), as[k]? = some a → ps[k]? = some q → H a = some (.tup (q.map V.int))
theorem PosIn.get {H : Hp} {p : Addr} {ps : List (List Int)} (h : PosIn H p ps) {k : Nat} (hk : k < ps.length) : ∃ (xs : List V) (a : Addr) (q : List Int), H p = some (.lst xs) ∧ xs.length = ps.length ∧ xs[k]? = some (.ref a) ∧ ps[k]? = some q ∧ H a = some (.tup (q.map V.int)) := by
  obtain ⟨as, h1, h2, h3⟩ := h
  have hk' : k < as.length := by omega
  exact ⟨_, as[k], ps[k], h1, by rw [List.length_map, h2], by rw [List.getElem?_map, List.getElem?_eq_getElem hk']; rfl, List.getElem?_eq_getElem hk, h3 k _ _ (List.getElem?_eq_getElem hk') (List.getElem?_eq_getElem hk)⟩
theorem PosIn.mono {H H' : Hp} {p : Addr} {ps : List (List Int)} (h : PosIn H p ps) (t : Tu H H') (e : ∀ xs, H p = some (.lst xs) → H' p = some (.lst xs)) : PosIn H' p ps := by
  obtain ⟨as, h1, h2, h3⟩ := h
  exact ⟨as, e _ h1, h2, fun k a q ea eq => t _ _ (h3 k a q ea eq)⟩
theorem PosIn.same {H H' : Hp} {p : Addr} {ps : List (List Int)} (h : PosIn H p ps) (s : Same H H') : PosIn H' p ps := h.mono (tu_same s) fun _ e => s _ _ e
theorem PosIn.push {H H' : Hp} {p a : Addr} {ps : List (List Int)} {q : List Int} {as : List Addr} (h1 : H p = some (.lst (as.map V.ref))) (h2 : as.length = ps.length) (h3 : ∀ (k : Nat) (a : Addr) (q : List Int), as[k]? = some a → ps[k]? = some q → H a = some (.tup (q.map V.int)))
    (t : Tu H H') (e : H' p = some (.lst (as.map V.ref ++ [.ref a]))) (ha : H' a = some (.tup (q.map V.int))) : PosIn H' p (ps ++ [q]) := by
  refine ⟨as ++ [a], by rw [e, List.map_append]; rfl, by rw [List.length_append, List.length_append, h2]; rfl, fun k b r eb er => ?_⟩
  by_cases hk : k < as.length
  · rw [List.getElem?_append_left hk] at eb
    rw [List.getElem?_append_left (by omega)] at er
    exact t _ _ (h3 k b r eb er)
  · have h4 := (List.getElem?_eq_some_iff.mp eb).1
    rw [List.length_append, List.length_singleton] at h4
    have ek : k = as.length := by omega
    subst ek
    rw [List.getElem?_append_right (Nat.le_refl _), Nat.sub_self] at eb
    rw [List.getElem?_append_right (by omega), h2, Nat.sub_self] at er
    cases eb; cases er
    exact ha
theorem cutLo (vs : List V) (k : Nat) : cutV vs none (some (k : Int)) = vs.take k := by
  unfold cutV
  have e1 : HT.sIx vs.length 0 none = 0 := rfl
  rw [e1, HT.sIx_nat, List.drop_zero, Nat.sub_zero]
  by_cases h : k ≤ vs.length
  · rw [Nat.min_eq_left h]
  · rw [Nat.min_eq_right (by omega), List.take_of_length_le (Nat.le_refl _), List.take_of_length_le (by omega)]
theorem cutHi (vs : List V) (k : Nat) : cutV vs (some (k : Int)) none = vs.drop k := by
  unfold cutV
  have e1 : HT.sIx vs.length vs.length none = vs.length := rfl
  rw [e1, HT.sIx_nat]
  by_cases h : k ≤ vs.length
  · rw [Nat.min_eq_left h, List.take_of_length_le (by rw [List.length_drop]; exact Nat.le_refl _)]
  · rw [Nat.min_eq_right (by omega), List.drop_of_length_le (Nat.le_refl _), List.drop_of_length_le (by omega), List.take_nil]
theorem notLo {vs : List V} {k : Nat} (h : k < vs.length) : ¬ (HT.sIx vs.length 0 none = 0 ∧ HT.sIx vs.length vs.length (some (k : Int)) = vs.length) := fun z => by
  rw [HT.sIx_nat] at z
  have := z.2
  omega
theorem notHi {vs : List V} {k : Nat} (h : 1 ≤ k) (hv : 1 ≤ vs.length) : ¬ (HT.sIx vs.length 0 (some (k : Int)) = 0 ∧ HT.sIx vs.length vs.length none = vs.length) := fun z => by
  rw [HT.sIx_nat] at z
  have := z.1
  omega
theorem TmsIn.take {H : Hp} : ∀ {ts : List Tm} {vs : List V} (k : Nat), TmsIn H ts vs → TmsIn H (ts.take k) (vs.take k)
  | [], _, k, h => by cases (show _ = [] from h); cases k <;> rfl
  | _ :: _, _, 0, _ => rfl
  | t :: ts, _, k + 1, ⟨v, r, rfl, h, q⟩ => ⟨v, r.take k, rfl, h, TmsIn.take k q⟩
theorem TmsIn.drop {H : Hp} : ∀ {ts : List Tm} {vs : List V} (k : Nat), TmsIn H ts vs → TmsIn H (ts.drop k) (vs.drop k)
  | [], _, k, h => by cases (show _ = [] from h); cases k <;> rfl
  | _ :: _, _, 0, h => h
  | t :: ts, _, k + 1, ⟨v, r, rfl, h, q⟩ => TmsIn.drop k q
theorem set_cut {α : Type} {l : List α} {k : Nat} {x : α} (h : k < l.length) : l.set k x = l.take k ++ [x] ++ l.drop (k + 1) := by
  rw [List.set_eq_take_append_cons_drop, if_pos h, List.append_assoc]; rfl
/-- sizes and depths behind a replacement -/
theorem rep_dep (u : Tm) : ∀ (q : List Int) (t : Tm), IsPos q t → (rep u q t).dep ≤ max t.dep (q.length + u.dep) ∧ (rep u q t).sz ≤ t.sz + u.sz
  | [], t, _ => ⟨by show u.dep ≤ _; have := t.dep_pos; simp; omega, by show u.sz ≤ _; omega⟩
  | k :: q, .var n, h => h.elim
  | k :: q, .app f ts, ⟨h1, t, ht, hp⟩ => by
    have ih := rep_dep u q t hp
    have e : ts.getD (k - 1).toNat u = t := by rw [List.getD_eq_getElem?_getD, ht]; rfl
    have hk : (k - 1).toNat < ts.length := (List.getElem?_eq_some_iff.mp ht).1
    have hd : ∀ (l : List Tm) (j : Nat) (x : Tm) (M : Nat), Tm.deps l ≤ M → x.dep ≤ M → Tm.deps (l.set j x) ≤ M := by
      intro l
      induction l with
      | nil => intro j x M h _; exact h
      | cons a r ih =>
        intro j x M h hx
        have h : max a.dep (Tm.deps r) ≤ M := h
        cases j with
        | zero => show max x.dep (Tm.deps r) ≤ M; omega
        | succ j => show max a.dep (Tm.deps (r.set j x)) ≤ M; have := ih j x M (by omega) hx; omega
    have hs : ∀ (l : List Tm) (j : Nat) (x y : Tm), l[j]? = some y → Tm.szs (l.set j x) + y.sz = Tm.szs l + x.sz := by
      intro l
      induction l with
      | nil => intro j x y h; simp at h
      | cons a r ih =>
        intro j x y h
        cases j with
        | zero =>
          have h : a = y := by simpa using h
          subst h
          show x.sz + Tm.szs r + a.sz = a.sz + Tm.szs r + x.sz
          omega
        | succ j =>
          have := ih j x y (by simpa using h)
          show a.sz + Tm.szs (r.set j x) + y.sz = a.sz + Tm.szs r + x.sz
          omega
    have hm := Tm.dep_of_mem (List.mem_of_getElem? ht)
    refine ⟨?_, ?_⟩
    · show 1 + Tm.deps (ts.set (k - 1).toNat (rep u q (ts.getD (k - 1).toNat u))) ≤ max (1 + Tm.deps ts) (q.length + 1 + u.dep)
      rw [e]
      have := hd ts (k - 1).toNat (rep u q t) (max (Tm.deps ts) (q.length + u.dep)) (by omega) (by omega)
      omega
    · show 1 + Tm.szs (ts.set (k - 1).toNat (rep u q (ts.getD (k - 1).toNat u))) ≤ 1 + Tm.szs ts + u.sz
      rw [e]
      have := hs ts (k - 1).toNat (rep u q t) t ht
      omega
theorem at_cons_app {k : Int} {q : List Int} {f : Str} {ts : List Tm} : at? (k :: q) (.app f ts) = if 1 ≤ k then (ts[(k - 1).toNat]?).bind (at? q) else none := rfl
theorem at_app : ∀ (a b : List Int) (t : Tm), at? (a ++ b) t = (at? a t).bind (at? b)
  | [], _, _ => rfl
  | k :: a, b, .var _ => rfl
  | k :: a, b, .app f ts => by
    show at? (k :: (a ++ b)) (.app f ts) = _
    rw [at_cons_app, at_cons_app]
    by_cases h : 1 ≤ k
    · rw [if_pos h, if_pos h]
      cases ts[(k - 1).toNat]? with
      | none => rfl
      | some t => exact at_app a b t
    · rw [if_neg h, if_neg h]; rfl
theorem isPos_at : ∀ (q : List Int) (t : Tm), IsPos q t ↔ ∃ u, at? q t = some u
  | [], t => ⟨fun _ => ⟨t, rfl⟩, fun _ => trivial⟩
  | k :: q, .var _ => ⟨fun h => h.elim, fun ⟨_, h⟩ => nomatch h⟩
  | k :: q, .app f ts => by
    rw [at_cons_app]
    constructor
    · rintro ⟨h1, t, ht, hp⟩
      obtain ⟨u, hu⟩ := (isPos_at q t).mp hp
      exact ⟨u, by rw [if_pos h1, ht]; exact hu⟩
    · rintro ⟨u, hu⟩
      by_cases h : 1 ≤ k
      · rw [if_pos h] at hu
        cases e : ts[(k - 1).toNat]? with
        | none => rw [e] at hu; cases hu
        | some t => rw [e] at hu; exact ⟨h, t, e, (isPos_at q t).mpr ⟨u, hu⟩⟩
      · rw [if_neg h] at hu; cases hu
theorem isPos_app (a b : List Int) (t : Tm) : IsPos (a ++ b) t ↔ ∃ u, at? a t = some u ∧ IsPos b u := by
  rw [isPos_at, at_app]
  constructor
  · rintro ⟨w, hw⟩
    cases e : at? a t with
    | none => rw [e] at hw; cases hw
    | some u => rw [e] at hw; exact ⟨u, rfl, (isPos_at b u).mpr ⟨w, hw⟩⟩
  · rintro ⟨u, hu, hb⟩
    rw [hu]
    exact (isPos_at b u).mp hb
theorem isPos_take {q : List Int} {t : Tm} (h : IsPos q t) (i : Nat) : ∃ u, at? (q.take i) t = some u := by
  have := (isPos_app (q.take i) (q.drop i) t).mp (by rw [List.take_append_drop]; exact h)
  obtain ⟨u, hu, _⟩ := this
  exact ⟨u, hu⟩
/-- a child -/
theorem isPos_one {k : Int} {t : Tm} : IsPos [k] t ↔ ∃ f ts u, t = .app f ts ∧ 1 ≤ k ∧ ts[(k - 1).toNat]? = some u := by
  cases t with
  | var n => exact ⟨fun h => h.elim, fun ⟨_, _, _, h, _⟩ => nomatch h⟩
  | app f ts => exact ⟨fun ⟨h1, u, hu, _⟩ => ⟨f, ts, u, rfl, h1, hu⟩, fun ⟨_, _, u, e, h1, hu⟩ => by cases e; exact ⟨h1, u, hu, trivial⟩⟩
theorem at_step {q : List Int} {t w : Tm} {i : Nat} {k : Int} (hk : q[i]? = some k) (hw : at? (q.take i) t = some w) : at? (q.take (i + 1)) t = at? [k] w := by
  rw [list_take_succ hk, at_app, hw]; rfl
/-- put in, and take out -/
theorem at_rep (u : Tm) : ∀ (q : List Int) (t : Tm), IsPos q t → at? q (rep u q t) = some u
  | [], _, _ => rfl
  | k :: q, .var _, h => h.elim
  | k :: q, .app f ts, ⟨h1, t, ht, hp⟩ => by
    have hk := (List.getElem?_eq_some_iff.mp ht).1
    have e : ts.getD (k - 1).toNat u = t := by rw [List.getD_eq_getElem?_getD, ht]; rfl
    show at? (k :: q) (.app f (ts.set (k - 1).toNat (rep u q (ts.getD (k - 1).toNat u)))) = _
    rw [at_cons_app, if_pos h1, List.getElem?_set_self hk, e]
    exact at_rep u q t hp
theorem isPos_rep {u : Tm} {q : List Int} {t : Tm} (h : IsPos q t) : IsPos q (rep u q t) := (isPos_at q _).mpr ⟨u, at_rep u q t h⟩
theorem rep_back (u s : Tm) : ∀ (q : List Int) (t : Tm), at? q t = some s → rep s q (rep u q t) = t
  | [], t, h => (Option.some.inj h).symm
  | k :: q, .var _, h => nomatch h
  | k :: q, .app f ts, h => by
    rw [at_cons_app] at h
    by_cases h1 : 1 ≤ k
    · rw [if_pos h1] at h
      cases ht : ts[(k - 1).toNat]? with
      | none => rw [ht] at h; cases h
      | some t =>
        rw [ht] at h
        have hk := (List.getElem?_eq_some_iff.mp ht).1
        have e : ts.getD (k - 1).toNat u = t := by rw [List.getD_eq_getElem?_getD, ht]; rfl
        have ih := rep_back u s q t h
        show Tm.app f ((ts.set (k - 1).toNat (rep u q (ts.getD (k - 1).toNat u))).set (k - 1).toNat (rep s q ((ts.set (k - 1).toNat (rep u q (ts.getD (k - 1).toNat u))).getD (k - 1).toNat s))) = _
        have e2 : (ts.set (k - 1).toNat (rep u q (ts.getD (k - 1).toNat u))).getD (k - 1).toNat s = rep u q t := by
          rw [List.getD_eq_getElem?_getD, List.getElem?_set_self hk, e]; rfl
        rw [e2, ih, List.set_set, ← (List.getElem?_eq_some_iff.mp ht).2, List.set_getElem_self]
    · rw [if_neg h1] at h; cases h
theorem rep_step {u w c : Tm} {q : List Int} {k : Int} {i : Nat} {t : Tm} (hk : q[i]? = some k) (hw : at? (q.take i) t = some w) (hc : at? (q.take (i + 1)) t = some c) :
    ∃ f ts, w = .app f ts ∧ 1 ≤ k ∧ ts[(k - 1).toNat]? = some c ∧ rep u (q.drop i) w = .app f (ts.set (k - 1).toNat (rep u (q.drop (i + 1)) c)) := by
  rw [at_step hk hw] at hc
  obtain ⟨f, ts, c', rfl, h1, h2⟩ := isPos_one.mp ((isPos_at [k] w).mpr ⟨c, hc⟩)
  have hi := (List.getElem?_eq_some_iff.mp hk)
  rw [at_cons_app, if_pos h1, h2] at hc
  have hc : some c' = some c := hc
  cases hc
  refine ⟨f, ts, rfl, h1, h2, ?_⟩
  have e : q.drop i = k :: q.drop (i + 1) := by
    obtain ⟨hi, rfl⟩ := hi
    exact (List.drop_eq_getElem_cons hi)
  rw [e]
  show Tm.app f (ts.set (k - 1).toNat (rep u (q.drop (i + 1)) (ts.getD (k - 1).toNat u))) = _
  rw [List.getD_eq_getElem?_getD, h2]; rfl
theorem at_sz : ∀ (q : List Int) (t u : Tm), at? q t = some u → u.sz ≤ t.sz ∧ u.dep ≤ t.dep
  | [], t, u, h => by cases (show some t = some u from h); exact ⟨Nat.le_refl _, Nat.le_refl _⟩
  | k :: q, .var _, _, h => nomatch h
  | k :: q, .app f ts, u, h => by
    rw [at_cons_app] at h
    by_cases h1 : 1 ≤ k
    · rw [if_pos h1] at h
      cases ht : ts[(k - 1).toNat]? with
      | none => rw [ht] at h; cases h
      | some t =>
        rw [ht] at h
        have ih := at_sz q t u h
        have hm := List.mem_of_getElem? ht
        have h2 := Tm.dep_of_mem hm
        have h3 := Tm.sz_arg hm
        exact ⟨by show u.sz ≤ 1 + Tm.szs ts; omega, by show u.dep ≤ 1 + Tm.deps ts; omega⟩
    · rw [if_neg h1] at h; cases h
/-- pairs of a position and a term, on a stack -/
def PairIn (H : Hp) (v : V) (x : List Int × Tm) : Prop := ∃ (b c : Addr) (u : V), v = .ref b ∧ H b = some (.tup [.ref c, u]) ∧ H c = some (.tup (x.1.map V.int)) ∧ TmIn H x.2 u
def StkIn (H : Hp) (ws : List V) (S : List (List Int × Tm)) : Prop := ws.length = S.length ∧ ∀ (k : Nat) (v : V) (x : List Int × Tm), ws[k]? = some v → S[k]? = some x → PairIn H v x
theorem PairIn.tu {H H' : Hp} {v : V} {x : List Int × Tm} (h : PairIn H v x) (t : Tu H H') : PairIn H' v x := by
  obtain ⟨b, c, u, rfl, h1, h2, h3⟩ := h
  exact ⟨b, c, u, rfl, t _ _ h1, t _ _ h2, h3.tu t⟩
theorem StkIn.tu {H H' : Hp} {ws : List V} {S : List (List Int × Tm)} (h : StkIn H ws S) (t : Tu H H') : StkIn H' ws S := ⟨h.1, fun k v x e1 e2 => (h.2 k v x e1 e2).tu t⟩
theorem StkIn.snoc {H : Hp} {ws : List V} {S : List (List Int × Tm)} (h : StkIn H ws S) {v : V} {x : List Int × Tm} (hv : PairIn H v x) : StkIn H (ws ++ [v]) (S ++ [x]) := by
  refine ⟨by rw [List.length_append, List.length_append, h.1]; rfl, fun k u y e1 e2 => ?_⟩
  by_cases hk : k < ws.length
  · rw [List.getElem?_append_left hk] at e1
    rw [List.getElem?_append_left (by have := h.1; omega)] at e2
    exact h.2 k u y e1 e2
  · have h4 := (List.getElem?_eq_some_iff.mp e1).1
    rw [List.length_append, List.length_singleton] at h4
    have ek : k = ws.length := by omega
    subst ek
    rw [List.getElem?_append_right (Nat.le_refl _), Nat.sub_self] at e1
    rw [List.getElem?_append_right (by have := h.1; omega), h.1, Nat.sub_self] at e2
    cases e1; cases e2
    exact hv
theorem StkIn.pop {H : Hp} {ws : List V} {S : List (List Int × Tm)} (h : StkIn H ws S) (n : ws ≠ []) : ∃ v S' x, ws[ws.length - 1]? = some v ∧ S = S' ++ [x] ∧ PairIn H v x ∧ StkIn H ws.dropLast S' := by
  have l := h.1
  have hw : 0 < ws.length := List.length_pos_iff.mpr n
  have hS : S ≠ [] := fun z => by rw [z] at l; simp at l; exact n l
  obtain ⟨S', x, rfl⟩ : ∃ S' x, S = S' ++ [x] := ⟨S.dropLast, S.getLast hS, (List.dropLast_concat_getLast hS).symm⟩
  rw [List.length_append, List.length_singleton] at l
  have hl : ws.length - 1 < ws.length := by omega
  have e1 := List.getElem?_eq_getElem hl
  refine ⟨_, S', x, e1, rfl, h.2 _ _ x e1 (by rw [List.getElem?_append_right (by omega), show ws.length - 1 - S'.length = 0 by omega]; rfl), by rw [List.length_dropLast]; omega, fun k v y g1 g2 => ?_⟩
  rw [List.getElem?_dropLast] at g1
  by_cases hk : k < ws.length - 1
  · rw [if_pos hk] at g1
    exact h.2 k v y g1 (by rw [List.getElem?_append_left (by omega)]; exact g2)
  · rw [if_neg hk] at g1; cases g1
def posOf : List (List Int × Tm) → List (List Int)
  | [] => []
  | x :: r => (poss x.2).map (fun z => x.1 ++ z) ++ posOf r
def kids (q : List Int) : Nat → List Tm → List (List Int × Tm)
  | _, [] => []
  | k, t :: ts => (q ++ [(k : Int)], t) :: kids q (k + 1) ts
def szOf (S : List (List Int × Tm)) : Nat := (S.map fun x => x.2.sz).sum
theorem posOf_app (a b : List (List Int × Tm)) : posOf (a ++ b) = posOf a ++ posOf b := by
  induction a with
  | nil => rfl
  | cons x a ih => show (poss x.2).map (fun z => x.1 ++ z) ++ posOf (a ++ b) = _; rw [ih, ← List.append_assoc]; rfl
theorem posOf_len (a : List (List Int × Tm)) : (posOf a).length = szOf a := by
  induction a with
  | nil => rfl
  | cons x a ih => show ((poss x.2).map (fun z => x.1 ++ z) ++ posOf a).length = x.2.sz + szOf a; rw [List.length_append, List.length_map, poss_len, ih]
theorem szOf_app (a b : List (List Int × Tm)) : szOf (a ++ b) = szOf a + szOf b := by unfold szOf; rw [List.map_append, List.sum_append]
theorem szOf_rev (a : List (List Int × Tm)) : szOf a.reverse = szOf a := by
  induction a with
  | nil => rfl
  | cons x a ih =>
    rw [List.reverse_cons, szOf_app, ih]
    show szOf a + (x.2.sz + 0) = x.2.sz + szOf a
    omega
theorem len_szOf (a : List (List Int × Tm)) : a.length ≤ szOf a := by
  induction a with
  | nil => exact Nat.le_refl _
  | cons x a ih => have := x.2.sz_pos; show a.length + 1 ≤ x.2.sz + szOf a; omega
theorem posOf_kids (q : List Int) : ∀ (ts : List Tm) (k : Nat), posOf (kids q k ts) = (posss k ts).map (fun z => q ++ z)
  | [], _ => rfl
  | t :: ts, k => by
    show (poss t).map (fun z => (q ++ [(k : Int)]) ++ z) ++ posOf (kids q (k + 1) ts) = ((poss t).map (fun z => (k : Int) :: z) ++ posss (k + 1) ts).map (fun z => q ++ z)
    rw [posOf_kids q ts, List.map_append, List.map_map]
    congr 1
    refine List.map_congr_left fun z _ => ?_
    show (q ++ [(k : Int)]) ++ z = q ++ ((k : Int) :: z)
    rw [List.append_assoc]; rfl
theorem kids_len (q : List Int) : ∀ (ts : List Tm) (k : Nat), (kids q k ts).length = ts.length
  | [], _ => rfl
  | _ :: ts, k => congrArg (· + 1) (kids_len q ts (k + 1))
theorem kids_get (q : List Int) : ∀ (ts : List Tm) (k i : Nat) (t : Tm), ts[i]? = some t → (kids q k ts)[i]? = some (q ++ [((k + i : Nat) : Int)], t)
  | [], _, _, _, h => by simp at h
  | _ :: _, k, 0, _, h => by cases h; rfl
  | _ :: ts, k, i + 1, t, h => by
    have := kids_get q ts (k + 1) i t h
    rw [show k + 1 + i = k + (i + 1) by omega] at this
    exact this
theorem kids_sz (q : List Int) : ∀ (ts : List Tm) (k : Nat), szOf (kids q k ts) = Tm.szs ts
  | [], _ => rfl
  | t :: ts, k => by show t.sz + szOf (kids q (k + 1) ts) = t.sz + Tm.szs ts; rw [kids_sz q ts]
theorem rep_wf {fs : List Str} {B : Int} {u : Tm} (wu : u.wf fs B) : ∀ (q : List Int) (t : Tm), t.wf fs B → IsPos q t → (rep u q t).wf fs B
  | [], _, _, _ => wu
  | _ :: _, .var _, _, h => h.elim
  | k :: q, .app f ts, w, ⟨h1, t, ht, hp⟩ => by
    obtain ⟨⟨i, i1, i2⟩, w⟩ := (show (∃ k, fs[k]? = some f ∧ ts.length = ar k) ∧ Tm.wfs fs B ts from w)
    have e : ts.getD (k - 1).toNat u = t := by rw [List.getD_eq_getElem?_getD, ht]; rfl
    have ih := rep_wf wu q t (Tm.wf_of_mem w (List.mem_of_getElem? ht)) hp
    show (∃ k', fs[k']? = some f ∧ (ts.set (k - 1).toNat (rep u q (ts.getD (k - 1).toNat u))).length = ar k') ∧ Tm.wfs fs B (ts.set (k - 1).toNat (rep u q (ts.getD (k - 1).toNat u)))
    rw [e]
    refine ⟨⟨i, i1, by rw [List.length_set]; exact i2⟩, Tm.wfs_of fun x hx => ?_⟩
    rcases List.mem_or_eq_of_mem_set hx with h | h
    · exact Tm.wf_of_mem w h
    · rw [h]; exact ih
end J

/-! ### canonical forms -/
namespace J
open PySem L2
/-- the place of n in u, counted from k -/
def ix : Nat → List Int → Int → Option Nat
  | _, [], _ => none
  | k, a :: r, n => if a = n then some k else ix (k + 1) r n
/-- the dict that numbers u from k on -/
def knf : Nat → List Int → List (Key × V)
  | _, [] => []
  | k, a :: r => (.inl a, .int (k : Int)) :: knf (k + 1) r
def rnm (u : List Int) : Int → Option Tm := fun n => (ix 0 u n).map fun (k : Nat) => Tm.var (k : Int)
theorem knf_val : ∀ (u : List Int) (k : Nat) (n : Int), valV (knf k u) (.inl n) = (ix k u n).map fun (j : Nat) => V.int (j : Int)
  | [], _, _ => rfl
  | a :: r, k, n => by
    by_cases h : a = n
    · subst h
      show valV (((.inl a : Key), V.int (k : Int)) :: knf (k + 1) r) (.inl a) = (if a = a then some k else _).map _
      rw [if_pos rfl]
      exact valV_pos (p := ((.inl a : Key), V.int (k : Int))) rfl
    · have e : ¬ ((Sum.inl a : Key) = .inl n) := fun z => h (Sum.inl.inj z)
      show valV (((.inl a : Key), V.int (k : Int)) :: knf (k + 1) r) (.inl n) = (if a = n then some k else ix (k + 1) r n).map _
      rw [if_neg h, valV_neg e, knf_val r]
theorem knf_len : ∀ (u : List Int) (k : Nat), (knf k u).length = u.length
  | [], _ => rfl
  | _ :: r, k => by show (knf (k + 1) r).length + 1 = r.length + 1; rw [knf_len r]
theorem ix_none : ∀ (u : List Int) (k : Nat) (n : Int), ix k u n = none ↔ n ∉ u
  | [], _, n => by show none = none ↔ _; simp
  | a :: r, k, n => by
    show (if a = n then some k else ix (k + 1) r n) = none ↔ _
    by_cases h : a = n
    · rw [if_pos h]; subst h; simp
    · rw [if_neg h, ix_none r, List.mem_cons, not_or]
      exact ⟨fun z => ⟨fun w => h w.symm, z⟩, fun z => z.2⟩
theorem knf_snoc : ∀ (u : List Int) (k : Nat) (n : Int), knf k (u ++ [n]) = knf k u ++ [(.inl n, .int ((k + u.length : Nat) : Int))]
  | [], _, _ => rfl
  | a :: r, k, n => by
    show ((.inl a : Key), V.int (k : Int)) :: knf (k + 1) (r ++ [n]) = ((.inl a : Key), V.int (k : Int)) :: (knf (k + 1) r ++ _)
    rw [knf_snoc r, show k + 1 + r.length = k + (a :: r).length by rw [List.length_cons]; omega]
theorem knf_put {u : List Int} {n : Int} (h : n ∉ u) : putK (knf 0 u) (.inl n) (.int (u.length : Int)) = knf 0 (u ++ [n]) := by
  rw [putK_new _ (by rw [knf_val, (ix_none u 0 n).mpr h]; rfl), knf_snoc, Nat.zero_add]
theorem rnm_in {H : Hp} {d : Addr} {u : List Int} (h : H d = some (.dK (knf 0 u))) : SbIn H d (rnm u) := by
  refine ⟨_, h, fun n => ?_⟩
  unfold rnm
  rw [knf_val]
  cases ix 0 u n with
  | none => rfl
  | some k => exact ⟨_, rfl, rfl⟩
def both (l r : Tm) : List Int := adds [] (vars l ++ vars r)
def canon (l r : Tm) : Tm × Tm := (sub (rnm (both l r)) l, sub (rnm (both l r)) r)
/-- variables renamed by g -/
def ren (g : Int → Int) (t : Tm) : Tm := sub (fun n => some (.var (g n))) t
theorem vars_mem (t : Tm) (n : Int) : n ∈ vars t ↔ n ∈ occ t := by
  unfold vars
  rw [adds_mem]
  simp
theorem both_mem (l r : Tm) (n : Int) : n ∈ both l r ↔ n ∈ occ l ∨ n ∈ occ r := by
  unfold both
  rw [adds_mem, List.mem_append, vars_mem, vars_mem]
  simp
theorem both_occ (l r : Tm) : both l r = adds [] (occ l ++ occ r) := by
  unfold both vars
  rw [adds_app, adds_app, adds_two, adds_two]
  rfl
mutual
theorem occ_sub (m : Int → Option Tm) (g : Int → Int) : ∀ t : Tm, (∀ n ∈ occ t, m n = some (.var (g n))) → occ (sub m t) = (occ t).map g
  | .var n, h => by
    show occ ((m n).getD (.var n)) = _
    rw [h n (List.mem_singleton.mpr rfl)]; rfl
  | .app f ts, h => by show occs (subs m ts) = (occs ts).map g; exact occs_sub m g ts h
theorem occs_sub (m : Int → Option Tm) (g : Int → Int) : ∀ ts : List Tm, (∀ n ∈ occs ts, m n = some (.var (g n))) → occs (subs m ts) = (occs ts).map g
  | [], _ => rfl
  | t :: ts, h => by
    show occ (sub m t) ++ occs (subs m ts) = (occ t ++ occs ts).map g
    rw [occ_sub m g t fun n hn => h n (List.mem_append.mpr (.inl hn)), occs_sub m g ts fun n hn => h n (List.mem_append.mpr (.inr hn)), List.map_append]
end
theorem adds_map (g : Int → Int) : ∀ (l acc : List Int), (∀ a ∈ acc ++ l, ∀ b ∈ acc ++ l, g a = g b → a = b) → adds (acc.map g) (l.map g) = (adds acc l).map g
  | [], _, _ => rfl
  | n :: r, acc, inj => by
    show adds (if g n ∈ acc.map g then acc.map g else acc.map g ++ [g n]) (r.map g) = (adds (if n ∈ acc then acc else acc ++ [n]) r).map g
    by_cases h : n ∈ acc
    · rw [if_pos h, if_pos (List.mem_map.mpr ⟨n, h, rfl⟩)]
      exact adds_map g r acc fun a ha b hb => inj a (by simp at ha ⊢; rcases ha with z | z <;> simp [z]) b (by simp at hb ⊢; rcases hb with z | z <;> simp [z])
    · have h2 : g n ∉ acc.map g := fun z => by
        obtain ⟨a, ha, e⟩ := List.mem_map.mp z
        have := inj a (List.mem_append.mpr (.inl ha)) n (by simp) e
        exact h (this ▸ ha)
      rw [if_neg h, if_neg h2]
      have e : acc.map g ++ [g n] = (acc ++ [n]).map g := by rw [List.map_append]; rfl
      rw [e]
      exact adds_map g r (acc ++ [n]) fun a ha b hb => inj a (by rw [List.append_assoc] at ha; exact ha) b (by rw [List.append_assoc] at hb; exact hb)
theorem ix_map (g : Int → Int) : ∀ (u : List Int) (k : Nat) (n : Int), (∀ a ∈ u, g a = g n → a = n) → ix k (u.map g) (g n) = ix k u n
  | [], _, _, _ => rfl
  | a :: r, k, n, inj => by
    show (if g a = g n then some k else ix (k + 1) (r.map g) (g n)) = (if a = n then some k else ix (k + 1) r n)
    by_cases h : a = n
    · rw [if_pos h, if_pos (by rw [h])]
    · rw [if_neg h, if_neg fun z => h (inj a (List.mem_cons_self ..) z)]
      exact ix_map g r (k + 1) n fun b hb => inj b (List.mem_cons_of_mem _ hb)
mutual
theorem sub_ren (m m' : Int → Option Tm) (g : Int → Int) (v : Int → Option Tm) : ∀ t : Tm, (∀ n ∈ occ t, v n = some (.var (g n)) ∧ ((m' (g n)).getD (.var (g n))) = ((m n).getD (.var n))) → sub m' (sub v t) = sub m t
  | .var n, h => by
    obtain ⟨h1, h2⟩ := h n (List.mem_singleton.mpr rfl)
    show sub m' ((v n).getD (.var n)) = (m n).getD (.var n)
    rw [h1, ← h2]; rfl
  | .app f ts, h => by show Tm.app f (subs m' (subs v ts)) = .app f (subs m ts); rw [subs_ren m m' g v ts h]
theorem subs_ren (m m' : Int → Option Tm) (g : Int → Int) (v : Int → Option Tm) : ∀ ts : List Tm, (∀ n ∈ occs ts, v n = some (.var (g n)) ∧ ((m' (g n)).getD (.var (g n))) = ((m n).getD (.var n))) → subs m' (subs v ts) = subs m ts
  | [], _ => rfl
  | t :: ts, h => by
    show sub m' (sub v t) :: subs m' (subs v ts) = sub m t :: subs m ts
    rw [sub_ren m m' g v t fun n hn => h n (List.mem_append.mpr (.inl hn)), subs_ren m m' g v ts fun n hn => h n (List.mem_append.mpr (.inr hn))]
end
/-- renaming does not change the canonical form -/
theorem canon_ren {l r : Tm} (v : Int → Option Tm) (g : Int → Int) (hv : ∀ n, n ∈ occ l ∨ n ∈ occ r → v n = some (.var (g n)))
    (inj : ∀ a b, (a ∈ occ l ∨ a ∈ occ r) → (b ∈ occ l ∨ b ∈ occ r) → g a = g b → a = b) : canon (sub v l) (sub v r) = canon l r := by
  have e : both (sub v l) (sub v r) = (both l r).map g := by
    rw [both_occ, both_occ, occ_sub v g l fun n hn => hv n (.inl hn), occ_sub v g r fun n hn => hv n (.inr hn), ← List.map_append]
    exact adds_map g _ [] fun a ha b hb => inj a b (List.mem_append.mp ha) (List.mem_append.mp hb)
  unfold canon
  rw [e]
  have key : ∀ n, n ∈ occ l ∨ n ∈ occ r → ((rnm ((both l r).map g) (g n)).getD (.var (g n))) = ((rnm (both l r) n).getD (.var n)) := by
    intro n hn
    unfold rnm
    rw [ix_map g _ 0 n fun a ha => inj a n ((both_mem l r a).mp ha) hn]
    cases h : ix 0 (both l r) n with
    | none => exact absurd ((both_mem l r n).mpr hn) ((ix_none _ _ _).mp h)
    | some k => rfl
  rw [sub_ren (rnm (both l r)) _ g v l fun n hn => ⟨hv n (.inl hn), key n (.inl hn)⟩, sub_ren (rnm (both l r)) _ g v r fun n hn => ⟨hv n (.inr hn), key n (.inr hn)⟩]
theorem ix_lt : ∀ (u : List Int) (k : Nat) (n : Int) (j : Nat), ix k u n = some j → k ≤ j ∧ u[j - k]? = some n
  | [], _, _, _, h => nomatch h
  | a :: r, k, n, j, h => by
    have h : (if a = n then some k else ix (k + 1) r n) = some j := h
    by_cases e : a = n
    · rw [if_pos e] at h; cases h
      exact ⟨Nat.le_refl _, by rw [Nat.sub_self, e]; rfl⟩
    · rw [if_neg e] at h
      have := ix_lt r (k + 1) n j h
      refine ⟨by omega, ?_⟩
      rw [show j - k = (j - (k + 1)) + 1 by omega, List.getElem?_cons_succ]
      exact this.2
theorem canon_twice (l r : Tm) : canon (canon l r).1 (canon l r).2 = canon l r := by
  let g : Int → Int := fun n => match ix 0 (both l r) n with | some k => (k : Int) | none => n
  have some_of : ∀ n, n ∈ occ l ∨ n ∈ occ r → ∃ k, ix 0 (both l r) n = some k := fun n hn => by
    cases h : ix 0 (both l r) n with
    | none => exact absurd ((both_mem l r n).mpr hn) ((ix_none _ _ _).mp h)
    | some k => exact ⟨k, rfl⟩
  refine canon_ren (rnm (both l r)) g (fun n hn => ?_) fun a b ha hb e => ?_
  · obtain ⟨k, hk⟩ := some_of n hn
    show (ix 0 (both l r) n).map (fun (k : Nat) => Tm.var (k : Int)) = some (Tm.var (match ix 0 (both l r) n with | some k => (k : Int) | none => n))
    rw [hk]; rfl
  · obtain ⟨k, hk⟩ := some_of a ha
    obtain ⟨j, hj⟩ := some_of b hb
    have e : (match ix 0 (both l r) a with | some k => (k : Int) | none => a) = (match ix 0 (both l r) b with | some k => (k : Int) | none => b) := e
    rw [hk, hj] at e
    have e : (k : Int) = (j : Int) := e
    have h1 := (ix_lt _ _ _ _ hk).2
    have h2 := (ix_lt _ _ _ _ hj).2
    have : k = j := by omega
    rw [this] at h1
    rw [h1] at h2
    exact Option.some.inj h2
mutual
theorem sz_sub_var (m : Int → Option Tm) (hm : ∀ n t, m n = some t → t.sz = 1 ∧ t.dep = 1) : ∀ t : Tm, (sub m t).sz = t.sz ∧ (sub m t).dep = t.dep
  | .var n => by
    show ((m n).getD (.var n)).sz = 1 ∧ ((m n).getD (.var n)).dep = 1
    cases h : m n with
    | none => exact ⟨rfl, rfl⟩
    | some t => exact hm n t h
  | .app f ts => by
    have := szs_sub_var m hm ts
    exact ⟨by show 1 + Tm.szs (subs m ts) = 1 + Tm.szs ts; rw [this.1], by show 1 + Tm.deps (subs m ts) = 1 + Tm.deps ts; rw [this.2]⟩
theorem szs_sub_var (m : Int → Option Tm) (hm : ∀ n t, m n = some t → t.sz = 1 ∧ t.dep = 1) : ∀ ts : List Tm, Tm.szs (subs m ts) = Tm.szs ts ∧ Tm.deps (subs m ts) = Tm.deps ts
  | [] => ⟨rfl, rfl⟩
  | t :: ts => by
    have h1 := sz_sub_var m hm t
    have h2 := szs_sub_var m hm ts
    exact ⟨by show (sub m t).sz + Tm.szs (subs m ts) = t.sz + Tm.szs ts; rw [h1.1, h2.1], by show max (sub m t).dep (Tm.deps (subs m ts)) = max t.dep (Tm.deps ts); rw [h1.2, h2.2]⟩
end
theorem rnm_var (u : List Int) (n : Int) (t : Tm) (h : rnm u n = some t) : t.sz = 1 ∧ t.dep = 1 := by
  unfold rnm at h
  cases e : ix 0 u n with
  | none => rw [e] at h; cases h
  | some k => rw [e] at h; cases h; exact ⟨rfl, rfl⟩
mutual
theorem occ_wf {fs : List Str} {B : Int} : ∀ t : Tm, t.wf fs B → ∀ n ∈ occ t, 0 ≤ n ∧ n < B
  | .var k, w, n, h => by rw [List.mem_singleton.mp h]; exact w
  | .app f ts, w, n, h => occs_wf ts w.2 n h
theorem occs_wf {fs : List Str} {B : Int} : ∀ ts : List Tm, Tm.wfs fs B ts → ∀ n ∈ occs ts, 0 ≤ n ∧ n < B
  | [], _, _, h => nomatch h
  | t :: ts, w, n, h => by
    rcases List.mem_append.mp (show n ∈ occ t ++ occs ts from h) with h | h
    · exact occ_wf t w.1 n h
    · exact occs_wf ts w.2 n h
end
end J

/-! ### errors of the program's own classes -/
namespace J
open PySem L2 PyProof.Rows
def veB : List Value := [.type "ValueError", .type "Exception", .type "BaseException", .type "object"]
/-- an error class without an __init__ of its own -/
structure ErrC (K : PySem.W.Frag) (mg : Str → Option Value) (x : Str) (C : Addr) : Prop where
  gC : mg x = some (.ref C)
  kC : PySem.W.keepIn K (.ref C) = true
  xC : PySem.W.excIn K C [.type "ValueError", .type "Exception", .type "BaseException", .type "object"] "ValueError.__new__" = true
  bC : PySem.W.subIn K (.ref C) (.type "BaseException") = some true
  tC : PySem.W.typeIn K (.ref C) = some (.type "type")
  eC : PySem.W.exmOne K (.ref C) (.ref C) = some true
  dC : ExcC K C
theorem err_mk {K : PySem.W.Frag} {h : Heap} {mg : Str → Option Value} {x : Str} {C : Addr} (X : K.In h) (G : h.Ns mainGlobals mg)
    (a : PySem.W.nsIn K mainGlobals x = some (some (.ref C))) (k : PySem.W.keepIn K (.ref C) = true) (e : PySem.W.excIn K C [.type "ValueError", .type "Exception", .type "BaseException", .type "object"] "ValueError.__new__" = true)
    (b : PySem.W.subIn K (.ref C) (.type "BaseException") = some true) (t : PySem.W.typeIn K (.ref C) = some (.type "type")) (s : PySem.W.subIn K (.ref C) (.ref C) = some true)
    (hg : PySem.W.findIn K (.ref C) "__getattribute__" = some (some (.builtin "BaseException.__getattribute__"))) (hk : PySem.W.findIn K (.ref C) "__getattr__" = some none) (hd : PySem.W.hasDictIn K C = true)
    (ha : PySem.W.findIn K (.ref C) "__class__" = some (some (.builtin "object.__class__"))) (hn : PySem.W.specialIn K (.builtin "object.__class__") "__get__" = some (some (.builtin "getset_descriptor.__get__")))
    (ht : PySem.W.takesIn K (.builtin "object.__class__") = some true) (hm : PySem.W.mroIn K C (.type "object") = some true) : ErrC K mg x C :=
  ⟨PySem.W.mg_of X G a, k, e, b, t, PySem.W.exm_ref b hd t s, ⟨hg, hk, b, hd, ha, hn, ht, hm⟩⟩
section
variable {X : Cx} {C : Addr} {bmB : List Value} {B newId initId : String}
/-- X() -/
theorem pmk_own0 {x : Str} {p pos : Pos} (F : ExcBaseFacts B newId initId bmB) (q : PySem.W.excIn X.K C bmB newId = true) (gC : X.mg x = some (.ref C)) (kC : PySem.W.keepIn X.K (.ref C) = true) (r : Raises X (.ref C)) (hg : Gl X x)
    (hdb : (x == ("__debug__" : Str)) = false := by decide) : PMk X (.Call (.Name x p) [] [] pos) (fun _ H Q => Q (.ref C) none H) := by
  intro pins s σ H Q I h
  refine wpAny_Call_Name_kw (ld_glob I hg gC ?_ hdb)
  refine PySem.W.callWith_K0 I.kIn kC ?_
  show wpAny _ _ (call (.ref C) []) _ _ _
  obtain ⟨bm, N, nm, qn, bs, hdct, sn, sub, ab, col, dd, k0, k1, k2, k3, k5, mN, hC, hN, hni, T⟩ := exc_obj I.kIn q
  refine wpAny_call_exc_subT F T hC hN hni (fun h' e hm => ?_) (by show 0 ≤ sizeLine; omega)
  exact mk_of I hm r h (I.hok.gone hm.new)
theorem pss_assume {p : Prop} {sts : List Stmt} {t : TS} (h : p → PSs X sts t) : PSs X sts (fun D σ H => p ∧ t D σ H) := ⟨fun pins s σ H D I ⟨hp, q⟩ => (h hp).run pins s σ H D I q⟩
/-- a call that lets nothing out -/
theorem no_raise {X : Cx} (σ : L2.St) : PassesAt (L2.CX X.prog X.w) X σ (fun _ _ _ => False) := fun _ _ _ _ _ _ c => by
  obtain ⟨_, _, _, _, _, _, _, _, _, _, _, _, h⟩ := c
  exact h.elim
end
end J

/-! ### range(i, j, -1) in a for -/
namespace J
open PySem L2
theorem down_ok {n : Nat} (h : n ≤ 1000000) : RgC ((n : Int) - 1) (-1) (-1) n := by
  have := RgC.neg (i := (n : Int) - 1) (j := -1) (by omega) (by omega) (by decide) (by decide)
  have e : ((n : Int) - 1 - (-1)).toNat = n := by omega
  rw [e] at this
  exact this
theorem down0_ok {n : Nat} (h : n ≤ 1000000) : RgC (n : Int) 0 (-1) n := by
  have := RgC.neg (i := (n : Int)) (j := 0) (by omega) (by omega) (by decide) (by decide)
  have e : ((n : Int) - 0).toNat = n := by omega
  rw [e] at this
  exact this
theorem catA {K : PySem.W.Frag} {H : Hp} {a b : Addr} {xs ys : List V} {Q : VK} (ha : H a = some (.tup xs)) (hb : H b = some (.tup ys)) (hy : ys ≠ []) (hl : xs.length + ys.length ≤ sizeLine) (k : ∀ p H', Same H H' → H' p = some (.tup (xs ++ ys)) → Q (.ref p) H') : rCatA K (.ref a) (.ref b) H Q := by
  refine ⟨a, b, xs, ys, rfl, rfl, SqT.of ha, SqT.of hb, hl, fun z => ?_, fun _ z => absurd z hy, fun _ _ p hp => ?_⟩
  · refine k b H (Same.refl _) ?_
    rw [z]; exact hb
  · exact k p _ (al_same hp rfl) upd_same
/-- the slots, written out anew -/
theorem at_state {t : TS} {D : Ends} {σ σ' : L2.St} {H : Hp} (e : σ = σ') (h : t D σ' H) : t D σ H := e ▸ h
theorem catB {K : PySem.W.Frag} {H : Hp} {a b : Addr} {xs ys : List V} {Q : VK} (ha : H a = some (.tup xs)) (hb : H b = some (.tup ys)) (hl : xs.length + ys.length ≤ sizeLine) (k : ∀ p H', Same H H' → H' p = some (.tup (xs ++ ys)) → Q (.ref p) H') : rCatA K (.ref a) (.ref b) H Q := by
  refine ⟨a, b, xs, ys, rfl, rfl, SqT.of ha, SqT.of hb, hl, fun z => ?_, fun _ z => ?_, fun _ _ p hp => ?_⟩
  · refine k b H (Same.refl _) ?_
    rw [z]; exact hb
  · refine k a H (Same.refl _) ?_
    rw [z, List.append_nil]; exact ha
  · exact k p _ (al_same hp rfl) upd_same
end J

/-! ### errors of the program's own classes that have an __init__ -/
namespace J
open PySem L2 PyProof.Rows
/-- an error class whose __init__ is the def at f -/
structure ErrI (K : PySem.W.Frag) (mg : Str → Option Value) (x : Str) (C f : Addr) : Prop where
  gC : mg x = some (.ref C)
  kC : PySem.W.keepIn K (.ref C) = true
  bC : PySem.W.subIn K (.ref C) (.type "BaseException") = some true
  tC : PySem.W.typeIn K (.ref C) = some (.type "type")
  eC : PySem.W.exmOne K (.ref C) (.ref C) = some true
  dC : ExcC K C
  oC : OexC K C
  xC : XfC K C
  iC : PySem.W.findIn K (.ref C) "__init__" = some (some (.ref f))
  tI : PySem.W.typeIn K (.ref f) = some (.type "function")
theorem erri_mk {K : PySem.W.Frag} {h : Heap} {mg : Str → Option Value} {x : Str} {C f : Addr} (X : K.In h) (G : h.Ns mainGlobals mg)
    (a : PySem.W.nsIn K mainGlobals x = some (some (.ref C))) (k : PySem.W.keepIn K (.ref C) = true)
    (o : ∃ nm q N bs bm sn sub ab col dd k0 k1 k2 k3 k5, K.lookup C = some (excClassObj nm q C N bs bm true sn sub ab col dd k0 k1 k2 k3 k5 "ValueError.__new__") ∧ PySem.HandSPX.refsVE bm = true)
    (sa : PySem.W.findIn K (.ref C) "__setattr__" = some (some (.builtin "object.__setattr__")))
    (b : PySem.W.subIn K (.ref C) (.type "BaseException") = some true) (t : PySem.W.typeIn K (.ref C) = some (.type "type")) (s : PySem.W.subIn K (.ref C) (.ref C) = some true)
    (hg : PySem.W.findIn K (.ref C) "__getattribute__" = some (some (.builtin "BaseException.__getattribute__"))) (hk : PySem.W.findIn K (.ref C) "__getattr__" = some none) (hd : PySem.W.hasDictIn K C = true)
    (ha : PySem.W.findIn K (.ref C) "__class__" = some (some (.builtin "object.__class__"))) (hn : PySem.W.specialIn K (.builtin "object.__class__") "__get__" = some (some (.builtin "getset_descriptor.__get__")))
    (ht : PySem.W.takesIn K (.builtin "object.__class__") = some true) (hm : PySem.W.mroIn K C (.type "object") = some true)
    (i : PySem.W.findIn K (.ref C) "__init__" = some (some (.ref f))) (ti : PySem.W.typeIn K (.ref f) = some (.type "function")) : ErrI K mg x C f :=
  ⟨PySem.W.mg_of X G a, k, b, t, PySem.W.exm_ref b hd t s, ⟨hg, hk, b, hd, ha, hn, ht, hm⟩, ⟨o, sa, b, t, k⟩, ⟨hg, hk, b, hd⟩, i, ti⟩
/-- isinstance(e, c), e the exception of the class D that the suite holds, its fields at d -/
def rIsED (K : PySem.W.Frag) (D a : Addr) (d : Option Addr) : List V → Hp → VK → Prop := fun xs H Q => ∃ (c : V) (cv : Value) (b : Bool) (dd : Addr) (fs : List (Str × V)), xs = [.ref a, c] ∧ (∀ u, RelV c u → u = cv) ∧ PySem.W.kitOne K (.ref D) cv = some b ∧ d = some dd ∧ H dd = some (.xd fs) ∧ Q (.bl b) H
theorem call_isED {X : Cx} {a D : Addr} {d : Option Addr} {oe : Obj} {pn : List (Addr × Obj)} (C : ExcC X.K D) (hz : Zc (.ref D) d oe) (hf : ∃ vs, oe.data = .fields vs) : CallR (X.suite a ((a, oe) :: pn)) (.builtin "isinstance") (rIsED X.K D a d) := by
  intro pins s σ H xs us Q I r h
  obtain ⟨c, cv, b, dd, fs, rfl, hcv, e, ed, hx, q⟩ := h
  subst ed
  match us, r with
  | [ur, uc], .cons rx (.cons rt .nil) =>
    cases (show ur = Value.ref a from rx)
    cases hcv _ rt
    obtain ⟨hget, _⟩ := I.pin (a, oe) (List.mem_append.mpr (.inl List.mem_cons_self))
    obtain ⟨mA, hns, _⟩ := (show ObjOk X.prog X.w H s.heap dd (.xd fs) from I.hok dd _ hx)
    obtain ⟨od, ho, _⟩ := lookIn_ns hns
    obtain ⟨vs, hv⟩ := hf
    have J : PySem.W.InstAt s.heap a oe D (some od) := ⟨hget, hz.1, by unfold PySem.W.notCls; rw [hv], by rw [hz.2]; exact ho⟩
    have cl : (PySem.W.clsIn X.K D).isSome = true := by
      obtain ⟨cd, hc, _⟩ := PySem.W.any_some C.hd
      rw [hc]; rfl
    exact PySem.W.kia_one (PySem.W.kitx_exc cl C.hg C.hk C.hs C.ha C.hn C.ht C.hm) I.kIn J e (fun z => nomatch z) fun tk => ⟨.bl b, H, I.kept (t' := tk) fun _ _ z => z, rfl, q⟩
end J

/-! ### repr of data; a promise that holds while no repr is under way -/
namespace J
open PySem PySem.Spec PyProof.Rows L2
section
variable {P : Program} {w : World} {K : PySem.W.Frag} {mg : Str → Option Value} {base : Heap}
/-- the promise of a def, asked for only where nothing is being shown -/
structure Quiet (P : Program) (w : World) (K : PySem.W.Frag) (mg : Str → Option Value) (base : Heap) (k : Nat) (f : Addr) (fd : FuncData) (ps : List Str) (sp : Sp) : Prop where
  len : ∀ vs H Q E, sp vs H Q E → vs.length = ps.length
  run : ∀ (A : Around) (outer : List Env) (s : Shared) (H : Hp) (args : Args) (us : List Value) (vs : List V) (Q : VK) (E : XK), A.guards = some [] → Room k A → Env0 P w K mg base A outer s H → BindsTo s fd args (ps.zip us) → Vals vs us →
    sp vs H Q E → codeAny (model P w) A (.call (.ref f) args) (CR CX0 outer P w H s Q E) s
theorem quiet_of {x qual : Str} {st : Stmt} {f : Addr} {fd : FuncData} {N ps : List Str} {k : Nat} {sp : Sp} (F : Fun K x qual st f fd) (S : FnScope N ps (defScope st)) (len : ∀ vs H Q E, sp vs H Q E → vs.length = ps.length)
    (hbody : ∀ (cdv : Value) (A : Around) (outer : List Env) (s : Shared) (H : Hp) (vs : List V) (Q : VK) (E : XK), A.guards = some [] → Room k (A.deeper (envOfC qual (defScope st) s.heap.objs.size f cdv)) → sp vs H Q E →
      ∃ t, PSs (cxOf CX0 P w K mg base N qual (defScope st) f cdv A outer s H E).nox (defBody st) t ∧ t { nx := fun _ H' => Q .non H', rt := Q } (start N vs) H) : Quiet P w K mg base (k + 1) f fd ps sp := by
  obtain ⟨oc, od, kV, doc, pm, an, cdv, ct, osl, rfl, lk, hcd⟩ := F.ex
  refine ⟨len, fun A outer s H args us vs Q E hg hr e0 hb rv hsp => ?_⟩
  obtain ⟨t, ht, hq⟩ := hbody cdv A outer s H vs Q E hg (hr.deeper _) hsp
  have KX : K.In s.heap := e0.mod.kin.keeps fun b o e => (e0.bs b o e).1
  have par : ∀ y ∈ ps.zip us, (defScope st).names.lookup y.1 = some .local ∨ ((defScope st).names.lookup y.1 = some .cell ∧ ((cellsFrom (s.heap.objs.size + 1) (defScope st).names []).lookup y.1).isSome = true) := fun y hy =>
    (S.par y.1 (List.of_mem_zip (a := y.1) (b := y.2) hy).1).imp id fun q => ⟨q, PySem.W.cellsFrom_some _ _ _ (.inl q)⟩
  refine codeAny_call_function hr.depth (KX _ _ lk) rfl S.co S.gen rfl (PySem.W.codeRec_of KX hcd) (hb _ _ _ _ (wpAny_newFunctionEnv_cells S.kind par fun env he s1 x => ?_))
  subst he
  refine ⟨(e0.mod.nolimit.keeps fun b o e => (e0.bs b o e).1).keeps x.toInCall.keep, codeAny_func ?_⟩
  refine wpAny_mono (ht.nox.run [] s1 (start N vs) H _ (inv_start S hr.hd e0 (len _ _ _ _ hsp) rv x) hq) (fun fl s' hs => ?_) fun e s' hs => hs
  match fl, hs with
  | .ret u, ⟨v, σ', H', J, r, q⟩ => exact ⟨v, H', J.os, J.bare, J.base, J.hok, r, q⟩
  | .next, ⟨σ', H', J, q⟩ => exact ⟨.non, H', J.os, J.bare, J.base, J.hok, rfl, q⟩
  | .brk, ⟨_, _, _, q⟩ => exact q.elim
  | .cont, ⟨_, _, _, q⟩ => exact q.elim
end
section
variable {X : Cx} {k : Nat} {f : Addr} {fd : FuncData} {ps : List Str} {sp : Sp}
theorem quiet_run {pins : List (Addr × Obj)} {σ : L2.St} {H : Hp} {s : Shared} {Q : VK} {us : List Value} {vs : List V} (F : Quiet X.prog X.w X.K X.mg X.base k f fd ps sp) (hq : X.A.guards = some []) (hr : Room k X.A) (hb : Binds X.K fd ps [])
    (I : Inv X pins σ H s) (r : Vals vs us) (h : sp (vs ++ []) H Q E0) : wpAny (model X.prog X.w) X.A (call (.ref f) us) (EP X pins σ Q) X.xe s := by
  have r2 : Vals (vs ++ []) (us ++ []) := r.append .nil
  refine wpAny_call (codeAny_mono (F.run X.A X.stack s H ⟨us, []⟩ (us ++ []) (vs ++ []) Q E0 hq hr I.env0 (hb s us I.kIn (by rw [← r2.length]; exact F.len _ _ _ _ h)) r2 h) fun r s' z => ?_)
  match r, z with
  | .error _, z => exact z.elim
  | .ok (.ret u), z => exact I.after z
  | .ok .next, z => exact z.elim
  | .ok .brk, z => exact z.elim
  | .ok .cont, z => exact z.elim
theorem pe_callQ {x : Str} {p pos : Pos} {e : Expr} {es : List Expr} {t : TA} (F : Quiet X.prog X.w X.K X.mg X.base k f fd ps sp) (hq : X.A.guards = some []) (hr : Room k X.A) (hg : Gl X x) (hm : X.mg x = some (.ref f)) (hk : PySem.W.keepIn X.K (.ref f) = true) (hb : Binds X.K fd ps [])
    (ha : PA X (e :: es) t) (hdb : (x == ("__debug__" : Str)) = false := by decide) (he : starEach (e :: es) X.env = (false, eval e X.env) :: starEach es X.env := by rfl) (hpl : (backTo pos (starEach es X.env)).any (·.1) = false := by rfl) :
    PE X (.Call (.Name x p) (e :: es) [] pos) (tCall sp [] E0 t) :=
  ⟨fun pins s σ H Q I h => wpAny_Call_Name_kw (ld_glob I hg hm (PySem.W.callWith_K (h₀ := X.base) I.ok.mod.kin hk (thn (ha.run pos pins s σ H _ I h) fun us s1 ⟨vs, H1, I1, r, q⟩ => ⟨I1.kIn, quiet_run F hq hr hb I1 r q⟩) he hpl) hdb)⟩
/-- repr of lists and tuples -/
def rShow (X : Cx) : List V → Hp → VK → Prop := fun xs H Q => X.A.guards = some [] ∧ ∃ a d, xs = [.ref a] ∧ Dp X.K H (.ref a) d ∧ d.showable = true ∧ d.hasDict = false ∧ d.depth ≤ 60 ∧ d.shown.length ≤ sizeLine ∧ Q (.str d.shown) H
theorem call_show (hu : X.A.units + 64 < cLine) : CallR X (.builtin "repr") (rShow X) := by
  intro pins s σ H xs us Q I r h
  obtain ⟨hg, a, d, rfl, hd, hs, hn, hp, hz, q⟩ := h
  cases r with
  | cons r rr =>
    cases rr
    cases r
    obtain ⟨as, rd⟩ := Dp.reads I d _ _ hd rfl
    exact repr_of_reads' rd hs (fun z => by rw [hn] at z; cases z) hg (by omega) (fun _ _ e => e) (fun h' u tk hk => ⟨.str d.shown, H, I.kept hk, ⟨u, rfl⟩, q⟩) hz
end
end J

/-! ### data that may be shown -/
namespace J
open PySem L2
structure Shw (D B : Nat) (d : PyData) : Prop where
  sh : d.showable = true
  nd : d.hasDict = false
  dp : d.depth ≤ D
  ln : d.shown.length ≤ B
theorem Shw.mono {D B D' B' : Nat} {d : PyData} (h : Shw D B d) (h1 : D ≤ D') (h2 : B ≤ B') : Shw D' B' d := ⟨h.sh, h.nd, Nat.le_trans h.dp h1, Nat.le_trans h.ln h2⟩
theorem shw_all {D B : Nat} : ∀ {ds : List PyData}, (∀ d ∈ ds, Shw D B d) → PyData.showableAll ds = true ∧ PyData.hasDictAll ds = false ∧ PyData.depthAll ds ≤ D ∧ ((PyData.shownAll ds).map (·.length)).sum ≤ B * ds.length ∧ (PyData.shownAll ds).length = ds.length
  | [], _ => ⟨rfl, rfl, Nat.zero_le _, Nat.zero_le _, rfl⟩
  | d :: ds, h => by
    obtain ⟨a, b, c, e, f⟩ := shw_all fun x hx => h x (List.mem_cons_of_mem _ hx)
    obtain ⟨h1, h2, h3, h4⟩ := h d (List.mem_cons_self ..)
    refine ⟨by show (d.showable && PyData.showableAll ds) = true; rw [h1, a]; rfl, by show (d.hasDict || PyData.hasDictAll ds) = false; rw [h2, b]; rfl, by show max d.depth (PyData.depthAll ds) ≤ D; omega, ?_, congrArg (· + 1) f⟩
    show d.shown.length + ((PyData.shownAll ds).map (·.length)).sum ≤ B * (ds.length + 1)
    rw [Nat.mul_add, Nat.mul_one]; omega
theorem shw_list {D B : Nat} {ds : List PyData} (h : ∀ d ∈ ds, Shw D B d) : Shw (D + 1) ((B + 2) * ds.length + 3) (.list ds) := by
  obtain ⟨a, b, c, e, f⟩ := shw_all h
  refine ⟨a, b, Nat.succ_le_succ c, ?_⟩
  have := listText_len_le (PyData.shownAll ds)
  rw [f] at this
  refine Nat.le_trans this ?_
  rw [Nat.add_mul]; omega
theorem shw_tuple {D B : Nat} {ds : List PyData} (h : ∀ d ∈ ds, Shw D B d) : Shw (D + 1) ((B + 2) * ds.length + 3) (.tuple ds) := by
  obtain ⟨a, b, c, e, f⟩ := shw_all h
  refine ⟨a, b, Nat.succ_le_succ c, ?_⟩
  have := tupleText_len_le (PyData.shownAll ds)
  rw [f] at this
  refine Nat.le_trans this ?_
  rw [Nat.add_mul]; omega
theorem log_of_lt {n k : Nat} (h : n < 2 ^ k) (hk : 0 < k) : n.log2 < k := by
  by_cases z : n = 0
  · subst z; exact hk
  · exact (Nat.log2_lt z).mpr h
theorem shw_int {i : Int} (h : i.natAbs < 10 ^ 12) : Shw 0 13 (.int i) := by
  refine ⟨?_, rfl, Nat.le_refl _, PyData.shown_int_le h⟩
  show decide (i.natAbs.log2 < 1920) = true
  refine decide_eq_true (Nat.lt_trans (log_of_lt (k := 40) (Nat.lt_trans h (by decide)) (by decide)) (by decide))
theorem shw_str {x : Str} (h : ∀ c ∈ x.cps.toList, c < 16 ^ 8) : Shw 0 (10 * x.length + 2) (.str x) := ⟨rfl, rfl, Nat.le_refl _, StrLaws.reprText_len x h⟩
theorem dp_ints {K : PySem.W.Frag} {H : Hp} : ∀ q : List Int, DpAll K H (q.map V.int) (q.map PyData.int)
  | [] => .nil
  | _ :: q => .cons (.int _) (dp_ints q)
theorem dp_all {K : PySem.W.Frag} {H : Hp} : ∀ {vs : List V} {ds : List PyData}, vs.length = ds.length → (∀ (k : Nat) v d, vs[k]? = some v → ds[k]? = some d → Dp K H v d) → DpAll K H vs ds
  | [], [], _, _ => .nil
  | [], _ :: _, h, _ => nomatch h
  | _ :: _, [], h, _ => nomatch h
  | v :: vs, d :: ds, h, f => .cons (f 0 v d rfl rfl) (dp_all (Nat.succ.inj h) fun k v d e1 e2 => f (k + 1) v d e1 e2)
end J

/-! ### repr of a table of terms -/
namespace J
open PySem PySem.Spec PyProof.Rows L2
mutual
def tmD : Tm → PyData
  | .var n => .int n
  | .app f ts => .tuple (.str f :: tmDs ts)
def tmDs : List Tm → List PyData
  | [] => []
  | t :: ts => tmD t :: tmDs ts
end
/-- the table at its entries, in their order -/
def TbIn (H : Hp) : List (Key × V) → List (Int × Tm) → Prop
  | [], [] => True
  | kv :: r, x :: l => kv.1 = .inl x.1 ∧ TmIn H x.2 kv.2 ∧ TbIn H r l
  | _, _ => False
def tbD (l : List (Int × Tm)) : PyData := .dict (l.map fun x => (.int x.1, tmD x.2))
section
variable {X : Cx} {pins : List (Addr × Obj)} {σ : L2.St} {H : Hp} {s : Shared}
mutual
theorem tm_reads (I : Inv X pins σ H s) : ∀ (t : Tm) (v : V) (u : Value), TmIn H t v → RelV v u → Reads s.heap u (tmD t) []
  | .var n, v, u, h, r => by
    cases (show v = .int n from h)
    obtain ⟨t, rfl⟩ := r
    exact Reads.int n t
  | .app f ts, v, u, h, r => by
    obtain ⟨a, vs, rfl, ha, hts⟩ := h
    cases (show u = .ref a from r)
    obtain ⟨its, rv, ⟨o, e, hc, n, hd⟩, _⟩ := I.tuple (SqT.of ha)
    refine Reads.tuple e hc hd ?_
    cases rv with
    | cons r1 rr =>
      obtain ⟨tk, rfl⟩ := r1
      exact ReadsAll.cons (as := []) (Reads.str f tk) (tms_reads I ts vs _ hts rr)
theorem tms_reads (I : Inv X pins σ H s) : ∀ (ts : List Tm) (vs : List V) (us : List Value), TmsIn H ts vs → Vals vs us → ReadsAll s.heap us (tmDs ts) []
  | [], vs, us, h, r => by
    cases (show vs = [] from h)
    cases r
    exact ReadsAll.nil
  | t :: ts, vs, us, h, r => by
    obtain ⟨v, w, rfl, h1, h2⟩ := h
    cases r with
    | cons r1 rr => exact ReadsAll.cons (as := []) (tm_reads I t v _ h1 r1) (tms_reads I ts w _ h2 rr)
end
end
mutual
theorem tmD_shw {fs : List Str} {B : Int} (hn : Names fs) (hB : B ≤ 1000) : ∀ t : Tm, t.wf fs B → (tmD t).showable = true ∧ (tmD t).hasDict = false ∧ (tmD t).depth ≤ t.dep ∧ (tmD t).shown.length + 10 ≤ 90 * t.sz
  | .var n, w => by
    have w : 0 ≤ n ∧ n < B := w
    have h := shw_int (i := n) (Nat.lt_trans (show n.natAbs < 10000 by omega) (by decide))
    have := h.ln
    exact ⟨h.sh, h.nd, Nat.zero_le _, by show (PyData.int n).shown.length + 10 ≤ 90 * 1; omega⟩
  | .app f ts, w => by
    obtain ⟨⟨k, hk, _⟩, w⟩ := (show (∃ k, fs[k]? = some f ∧ ts.length = ar k) ∧ Tm.wfs fs B ts from w)
    have hf := List.mem_of_getElem? hk
    have h1 := hn.hi f hf
    have h2 := shw_str (x := f) fun c hc => Nat.lt_of_le_of_lt (hn.low f hf c hc).2 (by decide)
    obtain ⟨a, b, c, d, e⟩ := tmDs_shw hn hB ts w
    refine ⟨by show ((PyData.str f).showable && PyData.showableAll (tmDs ts)) = true; rw [h2.sh, a]; rfl, by show ((PyData.str f).hasDict || PyData.hasDictAll (tmDs ts)) = false; rw [h2.nd, b]; rfl, ?_, ?_⟩
    · show max (PyData.str f).depth (PyData.depthAll (tmDs ts)) + 1 ≤ 1 + Tm.deps ts
      have : (PyData.str f).depth = 0 := rfl
      omega
    · have h3 := tupleText_len_le (PyData.shownAll (.str f :: tmDs ts))
      have h4 := h2.ln
      have e1 : ((PyData.shownAll (.str f :: tmDs ts)).map (·.length)).sum = (PyData.str f).shown.length + ((PyData.shownAll (tmDs ts)).map (·.length)).sum := rfl
      have e2 : (PyData.shownAll (.str f :: tmDs ts)).length = (PyData.shownAll (tmDs ts)).length + 1 := rfl
      show (tupleText (PyData.shownAll (.str f :: tmDs ts))).length + 10 ≤ 90 * (1 + Tm.szs ts)
      omega
theorem tmDs_shw {fs : List Str} {B : Int} (hn : Names fs) (hB : B ≤ 1000) : ∀ ts : List Tm, Tm.wfs fs B ts → PyData.showableAll (tmDs ts) = true ∧ PyData.hasDictAll (tmDs ts) = false ∧ PyData.depthAll (tmDs ts) ≤ Tm.deps ts ∧ ((PyData.shownAll (tmDs ts)).map (·.length)).sum + 10 * ts.length ≤ 90 * Tm.szs ts ∧ (PyData.shownAll (tmDs ts)).length = ts.length
  | [], _ => ⟨rfl, rfl, Nat.zero_le _, Nat.zero_le _, rfl⟩
  | t :: ts, w => by
    obtain ⟨a, b, c, d⟩ := tmD_shw hn hB t w.1
    obtain ⟨a', b', c', d', e'⟩ := tmDs_shw hn hB ts w.2
    refine ⟨by show ((tmD t).showable && PyData.showableAll (tmDs ts)) = true; rw [a, a']; rfl, by show ((tmD t).hasDict || PyData.hasDictAll (tmDs ts)) = false; rw [b, b']; rfl, ?_, ?_, congrArg (· + 1) e'⟩
    · show max (tmD t).depth (PyData.depthAll (tmDs ts)) ≤ max t.dep (Tm.deps ts); omega
    · show (tmD t).shown.length + ((PyData.shownAll (tmDs ts)).map (·.length)).sum + 10 * (ts.length + 1) ≤ 90 * (t.sz + Tm.szs ts)
      omega
end
theorem tbD_shw {fs : List Str} {B : Int} (hn : Names fs) (hB : B ≤ 1000) : ∀ l : List (Int × Tm), (∀ x ∈ l, x.1.natAbs < 10000 ∧ x.2.wf fs B ∧ x.2.sz ≤ 1000 ∧ x.2.dep ≤ 50) →
    PyData.showableKv (l.map fun x => (PyData.int x.1, tmD x.2)) = true ∧ PyData.depthKv (l.map fun x => (PyData.int x.1, tmD x.2)) ≤ 50 ∧ ((PyData.shownKv (l.map fun x => (PyData.int x.1, tmD x.2))).map (·.length)).sum ≤ 90100 * l.length ∧ (PyData.shownKv (l.map fun x => (PyData.int x.1, tmD x.2))).length = l.length
  | [], _ => ⟨rfl, Nat.zero_le _, Nat.zero_le _, rfl⟩
  | x :: l, h => by
    obtain ⟨a, b, c, d⟩ := tbD_shw hn hB l fun y hy => h y (List.mem_cons_of_mem _ hy)
    obtain ⟨h1, h2, h3, h4⟩ := h x (List.mem_cons_self ..)
    have hi := shw_int (i := x.1) (Nat.lt_trans h1 (by decide))
    obtain ⟨s1, _, s3, s4⟩ := tmD_shw hn hB x.2 h2
    refine ⟨by show ((PyData.int x.1).showable && (tmD x.2).showable && PyData.showableKv _) = true; rw [hi.sh, s1, a]; rfl, ?_, ?_, congrArg (· + 1) d⟩
    · show max (max (PyData.int x.1).depth (tmD x.2).depth) (PyData.depthKv _) ≤ 50
      have : (PyData.int x.1).depth = 0 := rfl
      omega
    · show ((PyData.int x.1).shown ++ ": " ++ (tmD x.2).shown).length + ((PyData.shownKv (l.map fun x => (PyData.int x.1, tmD x.2))).map (·.length)).sum ≤ 90100 * (l.length + 1)
      rw [len_app, len_app]
      have e : (": " : Str).length = 2 := by decide +kernel
      have := hi.ln
      omega
theorem TbIn.length {H : Hp} : ∀ {kvs : List (Key × V)} {l : List (Int × Tm)}, TbIn H kvs l → kvs.length = l.length
  | [], [], _ => rfl
  | [], _ :: _, h => h.elim
  | _ :: _, [], h => h.elim
  | _ :: _, _ :: _, h => congrArg (· + 1) (TbIn.length h.2.2)
theorem TbIn.tu {H H' : Hp} (t : Tu H H') : ∀ {kvs : List (Key × V)} {l : List (Int × Tm)}, TbIn H kvs l → TbIn H' kvs l
  | [], [], _ => trivial
  | [], _ :: _, h => h.elim
  | _ :: _, [], h => h.elim
  | _ :: _, _ :: _, h => ⟨h.1, h.2.1.tu t, TbIn.tu t h.2.2⟩
theorem TbIn.snoc {H : Hp} {n : Int} {t : Tm} {v : V} (ht : TmIn H t v) : ∀ {kvs : List (Key × V)} {l : List (Int × Tm)}, TbIn H kvs l → TbIn H (kvs ++ [(.inl n, v)]) (l ++ [(n, t)])
  | [], [], _ => ⟨rfl, ht, trivial⟩
  | [], _ :: _, h => h.elim
  | _ :: _, [], h => h.elim
  | _ :: _, _ :: _, h => ⟨h.1, h.2.1, TbIn.snoc ht h.2.2⟩
def look : List (Int × Tm) → Int → Option Tm
  | [], _ => none
  | x :: l, n => if x.1 = n then some x.2 else look l n
theorem TbIn.val {H : Hp} (n : Int) : ∀ {kvs : List (Key × V)} {l : List (Int × Tm)}, TbIn H kvs l → match look l n with
    | none => valV kvs (.inl n) = none
    | some t => ∃ v, valV kvs (.inl n) = some v ∧ TmIn H t v
  | [], [], _ => rfl
  | [], _ :: _, h => h.elim
  | _ :: _, [], h => h.elim
  | kv :: r, x :: l, h => by
    by_cases e : x.1 = n
    · rw [show look (x :: l) n = some x.2 from if_pos e]
      exact ⟨kv.2, valV_pos (by rw [h.1, e]), h.2.1⟩
    · rw [show look (x :: l) n = look l n from if_neg e, valV_neg (by rw [h.1]; exact fun z => e (Sum.inl.inj z))]
      exact TbIn.val n h.2.2
theorem TbIn.sb {H : Hp} {d : Addr} {kvs : List (Key × V)} {l : List (Int × Tm)} (h : H d = some (.dK kvs)) (t : TbIn H kvs l) : SbIn H d (look l) := ⟨kvs, h, fun n => t.val n⟩
theorem look_mem {n : Int} {t : Tm} : ∀ {l : List (Int × Tm)}, look l n = some t → (n, t) ∈ l
  | [], h => nomatch h
  | x :: l, h => by
    by_cases e : x.1 = n
    · rw [show look (x :: l) n = some x.2 from if_pos e] at h
      cases h
      rw [← e]; exact List.mem_cons_self ..
    · rw [show look (x :: l) n = look l n from if_neg e] at h
      exact List.mem_cons_of_mem _ (look_mem h)
theorem look_none {n : Int} : ∀ {l : List (Int × Tm)}, (∀ x ∈ l, x.1 ≠ n) → look l n = none
  | [], _ => rfl
  | x :: l, h => by
    rw [show look (x :: l) n = look l n from if_neg (h x (List.mem_cons_self ..))]
    exact look_none fun y hy => h y (List.mem_cons_of_mem _ hy)
section
variable {X : Cx} {pins : List (Addr × Obj)} {σ : L2.St} {H : Hp} {s : Shared}
theorem tb_keys (h : Heap) : ∀ {kvs : List (Key × V)} {l : List (Int × Tm)} {vs : List (Key × Value)} {es : List DictEntry} {P : Program} {w : World}, TbIn H kvs l → KV kvs vs → Pairs (mixKind P w) es vs → ReadsAll h (es.map (·.key)) ((l.map fun x => (PyData.int x.1, tmD x.2)).map (·.1)) []
  | [], [], _, _, _, _, _, k, p => by
    cases k; cases p
    exact ReadsAll.nil
  | [], _ :: _, _, _, _, _, h, _, _ => h.elim
  | _ :: _, [], _, _, _, _, h, _, _ => h.elim
  | kv :: r, x :: l, _, _, _, _, ⟨e, _, h2⟩, k, p => by
    cases k with
    | cons k1 kr =>
      cases p with
      | cons p1 p2 pr =>
        have p1 : keyIs _ _ = true := p1
        rw [← k1.1, e] at p1
        rcases keyIs_shape p1 with ⟨i, t, e1, e2⟩ | ⟨y, t, e1, _⟩
        · cases e1
          refine ReadsAll.cons (as := []) ?_ (tb_keys h h2 kr pr)
          show Reads h (DictEntry.key _) _ _
          rw [e2]
          exact Reads.int _ t
        · cases e1
theorem tb_vals (I : Inv X pins σ H s) : ∀ {kvs : List (Key × V)} {l : List (Int × Tm)} {vs : List (Key × Value)} {es : List DictEntry} {P : Program} {w : World}, TbIn H kvs l → KV kvs vs → Pairs (mixKind P w) es vs → ReadsAll s.heap (es.map (·.val)) ((l.map fun x => (PyData.int x.1, tmD x.2)).map (·.2)) []
  | [], [], _, _, _, _, _, k, p => by
    cases k; cases p
    exact ReadsAll.nil
  | [], _ :: _, _, _, _, _, h, _, _ => h.elim
  | _ :: _, [], _, _, _, _, h, _, _ => h.elim
  | kv :: r, x :: l, _, _, _, _, ⟨_, h1, h2⟩, k, p => by
    cases k with
    | cons k1 kr =>
      cases p with
      | cons p1 p2 pr =>
        refine ReadsAll.cons (as := []) ?_ (tb_vals I h2 kr pr)
        show Reads s.heap (DictEntry.val _) _ _
        rw [p2]
        exact tm_reads I _ _ _ h1 k1.2
/-- repr of a table -/
def rShowT (X : Cx) : List V → Hp → VK → Prop := fun xs H Q => X.A.guards = some [] ∧ ∃ a kvs l fs, ∃ B : Int, xs = [.ref a] ∧ H a = some (.dK kvs) ∧ TbIn H kvs l ∧ Names fs ∧ B ≤ 1000 ∧ (∀ x ∈ l, x.1.natAbs < 10000 ∧ x.2.wf fs B ∧ x.2.sz ≤ 1000 ∧ x.2.dep ≤ 50) ∧ l.length ≤ 30 ∧ Q (.str (tbD l).shown) H
theorem call_showT (hu : X.A.units + 64 < cLine) : CallR X (.builtin "repr") (rShowT X) := by
  intro pins s σ H xs us Q I r h
  obtain ⟨hg, a, kvs, l, fs, B, rfl, ha, ht, hn, hB, hl, hz, q⟩ := h
  obtain ⟨a1, a2, a3, a4⟩ := tbD_shw hn hB l hl
  cases r with
  | cons r rr =>
    cases rr
    cases r
    obtain ⟨_, hS, vs, k, o, es, ep, e, ⟨hc, _, _⟩, hd, _, pr, _⟩ := dk_of I.hok ha
    have rd : Reads s.heap (.ref a) (tbD l) (a :: [] ++ []) := Reads.dict e hc hd (tb_keys s.heap ht k pr) (tb_vals I ht k pr)
    have hln : (tbD l).shown.length ≤ sizeLine := by
      refine Nat.le_trans (dictText_len_le _) (Nat.le_trans (show _ ≤ 3000000 from ?_) (by decide))
      rw [a4]; omega
    have hdp : (tbD l).depth ≤ 51 := Nat.succ_le_succ a2
    refine repr_of_reads' rd a1 (fun _ z => ?_) hg (by omega) (fun _ _ e => e) (fun h' u tk hk => ⟨.str (tbD l).shown, H, I.kept hk, ⟨u, rfl⟩, q⟩) hln
    rcases List.mem_cons.mp z with z | z
    · rw [← z, beq_self_eq_true] at hS; cases hS
    · cases z
end
end J

/-! ### < and > of data; equality of terms; the order of terms -/
namespace J
open PySem PySem.Spec PyProof.Rows L2
section
variable {X : Cx}
def rCmpD (K : PySem.W.Frag) (g : PyData → PyData → Bool) : R2 := fun x y H Q => ∃ d e, Dp K H x d ∧ Dp K H y e ∧ PySem.W.alike d e = true ∧ d ≠ .none ∧ d.depth ≤ 60 ∧ Q (.bl (g d e)) H
theorem op_ltD (hu : X.A.units + 64 < cLine) : OpR X (compareOp .Lt) (rCmpD X.K fun d e => PySem.W.dataLt d e) := by
  intro pins s σ H x y v u Q I rx ry h
  obtain ⟨d, e, hd, he, al, nn, dp, q⟩ := h
  obtain ⟨as, r1⟩ := Dp.reads I d x v hd rx
  obtain ⟨bs, r2⟩ := Dp.reads I e y u he ry
  exact PySem.W.lt_data r1 r2 al nn (by have := Nat.min_le_left d.depth e.depth; omega) ⟨.bl _, H, I, rfl, q⟩
theorem op_gtD (hu : X.A.units + 64 < cLine) : OpR X (compareOp .Gt) (rCmpD X.K fun d e => PySem.W.dataLt e d) := by
  intro pins s σ H x y v u Q I rx ry h
  obtain ⟨d, e, hd, he, al, nn, dp, q⟩ := h
  obtain ⟨as, r1⟩ := Dp.reads I d x v hd rx
  obtain ⟨bs, r2⟩ := Dp.reads I e y u he ry
  exact PySem.W.gt_data r1 r2 al nn (by have := Nat.min_le_left d.depth e.depth; omega) ⟨.bl _, H, I, rfl, q⟩
end
/-! terms as data -/
mutual
theorem tmD_eqv : ∀ a b : Tm, PyData.eqv (tmD a) (tmD b) = true ↔ a = b
  | .var i, .var j => by
    show (i == j) = true ↔ _
    rw [beq_iff_eq]
    exact ⟨fun e => by rw [e], fun e => by injection e⟩
  | .var _, .app _ _ => ⟨fun h => (nomatch (show false = true from h)), fun h => nomatch h⟩
  | .app _ _, .var _ => ⟨fun h => (nomatch (show false = true from h)), fun h => nomatch h⟩
  | .app f ts, .app g us => by
    show ((f == g) && PyData.eqvAll (tmDs ts) (tmDs us)) = true ↔ _
    rw [Bool.and_eq_true, beq_iff_eq, tmDs_eqv ts us]
    exact ⟨fun ⟨a, b⟩ => by rw [a, b], fun e => by injection e with a b; exact ⟨a, b⟩⟩
theorem tmDs_eqv : ∀ a b : List Tm, PyData.eqvAll (tmDs a) (tmDs b) = true ↔ a = b
  | [], [] => ⟨fun _ => rfl, fun _ => rfl⟩
  | [], _ :: _ => ⟨fun h => (nomatch (show false = true from h)), fun h => nomatch h⟩
  | _ :: _, [] => ⟨fun h => (nomatch (show false = true from h)), fun h => nomatch h⟩
  | t :: ts, u :: us => by
    show (PyData.eqv (tmD t) (tmD u) && PyData.eqvAll (tmDs ts) (tmDs us)) = true ↔ _
    rw [Bool.and_eq_true, tmD_eqv t u, tmDs_eqv ts us]
    exact ⟨fun ⟨a, b⟩ => by rw [a, b], fun e => by injection e with a b; exact ⟨a, b⟩⟩
end
mutual
theorem tmD_dp {K : PySem.W.Frag} {H : Hp} : ∀ (t : Tm) (v : V), TmIn H t v → Dp K H v (tmD t)
  | .var n, v, h => by cases (show v = .int n from h); exact .int n
  | .app f ts, v, h => by
    obtain ⟨a, vs, rfl, ha, hts⟩ := h
    exact .tup (SqT.of ha) (.cons (.str f) (tmDs_dp ts vs hts))
theorem tmDs_dp {K : PySem.W.Frag} {H : Hp} : ∀ (ts : List Tm) (vs : List V), TmsIn H ts vs → DpAll K H vs (tmDs ts)
  | [], vs, h => by cases (show vs = [] from h); exact .nil
  | t :: ts, vs, h => by
    obtain ⟨v, w, rfl, h1, h2⟩ := h
    exact .cons (tmD_dp t v h1) (tmDs_dp ts w h2)
end
theorem low_ok {x : Str} (h : Low x) : PyData.strOk x = true := by
  unfold PyData.strOk
  rw [← Array.all_toList, List.all_eq_true]
  intro c hc
  have := h c hc
  exact decide_eq_true (by omega)
mutual
theorem tmD_lay {fs : List Str} (hn : Names fs) {B : Int} : ∀ t : Tm, t.wf fs B → (tmD t).canLay0 = true ∧ (tmD t).depth ≤ t.dep
  | .var n, _ => ⟨rfl, Nat.zero_le _⟩
  | .app f ts, w => by
    obtain ⟨⟨k, hk, _⟩, w⟩ := (show (∃ k, fs[k]? = some f ∧ ts.length = ar k) ∧ Tm.wfs fs B ts from w)
    have := tmDs_lay hn ts w
    refine ⟨?_, ?_⟩
    · show (PyData.strOk f && PyData.canLayAll0 (tmDs ts)) = true
      rw [this.1, low_ok (hn.low f (List.mem_of_getElem? hk))]; rfl
    · show max (PyData.str f).depth (PyData.depthAll (tmDs ts)) + 1 ≤ 1 + Tm.deps ts
      have : (PyData.str f).depth = 0 := rfl
      omega
theorem tmDs_lay {fs : List Str} (hn : Names fs) {B : Int} : ∀ ts : List Tm, Tm.wfs fs B ts → PyData.canLayAll0 (tmDs ts) = true ∧ PyData.depthAll (tmDs ts) ≤ Tm.deps ts
  | [], _ => ⟨rfl, Nat.le_refl _⟩
  | t :: ts, w => by
    have a := tmD_lay hn t w.1
    have b := tmDs_lay hn ts w.2
    refine ⟨?_, ?_⟩
    · show ((tmD t).canLay0 && PyData.canLayAll0 (tmDs ts)) = true
      rw [a.1, b.1]; rfl
    · show max (tmD t).depth (PyData.depthAll (tmDs ts)) ≤ max t.dep (Tm.deps ts)
      omega
end
theorem tmD_shaped {fs : List Str} (hn : Names fs) {B : Int} {t : Tm} (w : t.wf fs B) (h : t.dep ≤ 60) : SeqAt.shaped (tmD t) = true := by
  have := tmD_lay hn t w
  unfold SeqAt.shaped
  rw [this.1, Bool.true_and]
  exact decide_eq_true (by omega)
/-! symbols in rows -/
def rowD : V → PyData
  | .int n => .tuple [.int 0, .int n, .str ""]
  | .str f => .tuple [.int 1, .int 0, .str f]
  | _ => .tuple [.int 1, .int 0, .str ""]
theorem rowD_alike (x y : V) : PySem.W.alike (rowD x) (rowD y) = true := by cases x <;> cases y <;> rfl
theorem rows_alike : ∀ xs ys : List V, PySem.W.alikeAll (xs.map rowD) (ys.map rowD) = true
  | [], _ => rfl
  | _ :: _, [] => rfl
  | x :: xs, y :: ys => by
    show (PySem.W.alike (rowD x) (rowD y) && PySem.W.alikeAll (xs.map rowD) (ys.map rowD)) = true
    rw [rowD_alike, rows_alike xs ys]; rfl
def keyL (t : Tm) : List PyData := [.int ((syms t).length : Int), .list ((syms t).map rowD)]
theorem keyL_alike (t r : Tm) : PySem.W.alikeAll (keyL t) (keyL r) = true := by
  show (true && (PySem.W.alikeAll ((syms t).map rowD) ((syms r).map rowD) && true)) = true
  rw [rows_alike]; rfl
theorem row_inj : ∀ xs ys : List V, (∀ y ∈ xs, (∃ n, y = .int n) ∨ ∃ f, y = .str f) → (∀ y ∈ ys, (∃ n, y = .int n) ∨ ∃ f, y = .str f) → PySem.W.keyToksAll (xs.map rowD) = PySem.W.keyToksAll (ys.map rowD) → xs = ys
  | [], [], _, _, _ => rfl
  | [], _ :: _, _, _, h => by cases (show Sum.inl (0 : Int) = Sum.inl 1 from (List.cons.inj h).1)
  | _ :: _, [], _, _, h => by cases (show Sum.inl (1 : Int) = Sum.inl 0 from (List.cons.inj h).1)
  | x :: xs, y :: ys, hx, hy, h => by
    have h : Sum.inl 1 :: (PySem.W.keyToks (rowD x) ++ PySem.W.keyToksAll (xs.map rowD)) = Sum.inl 1 :: (PySem.W.keyToks (rowD y) ++ PySem.W.keyToksAll (ys.map rowD)) := h
    have h := (List.cons.inj h).2
    have ih := row_inj xs ys (fun z hz => hx z (List.mem_cons_of_mem _ hz)) (fun z hz => hy z (List.mem_cons_of_mem _ hz))
    rcases hx x (List.mem_cons_self ..) with ⟨n, rfl⟩ | ⟨f, rfl⟩
    · rcases hy y (List.mem_cons_self ..) with ⟨m, rfl⟩ | ⟨g, rfl⟩
      · have h : ([.inl 1, .inl 0, .inl 1, .inl n, .inl 1, .inr [], .inl 0] : List (Int ⊕ List Nat)) ++ PySem.W.keyToksAll (xs.map rowD) = [.inl 1, .inl 0, .inl 1, .inl m, .inl 1, .inr [], .inl 0] ++ PySem.W.keyToksAll (ys.map rowD) := h
        simp only [List.cons_append, List.nil_append, List.cons.injEq, Sum.inl.injEq, true_and] at h
        rw [h.1, ih h.2]
      · have h : ([.inl 1, .inl 0, .inl 1, .inl n, .inl 1, .inr [], .inl 0] : List (Int ⊕ List Nat)) ++ PySem.W.keyToksAll (xs.map rowD) = [.inl 1, .inl 1, .inl 1, .inl 0, .inl 1, .inr g.cps.toList, .inl 0] ++ PySem.W.keyToksAll (ys.map rowD) := h
        simp at h
    · rcases hy y (List.mem_cons_self ..) with ⟨m, rfl⟩ | ⟨g, rfl⟩
      · have h : ([.inl 1, .inl 1, .inl 1, .inl 0, .inl 1, .inr f.cps.toList, .inl 0] : List (Int ⊕ List Nat)) ++ PySem.W.keyToksAll (xs.map rowD) = [.inl 1, .inl 0, .inl 1, .inl m, .inl 1, .inr [], .inl 0] ++ PySem.W.keyToksAll (ys.map rowD) := h
        simp at h
      · have h : ([.inl 1, .inl 1, .inl 1, .inl 0, .inl 1, .inr f.cps.toList, .inl 0] : List (Int ⊕ List Nat)) ++ PySem.W.keyToksAll (xs.map rowD) = [.inl 1, .inl 1, .inl 1, .inl 0, .inl 1, .inr g.cps.toList, .inl 0] ++ PySem.W.keyToksAll (ys.map rowD) := h
        simp only [List.cons_append, List.nil_append, List.cons.injEq, Sum.inr.injEq, true_and] at h
        rw [PySem.W.str_of_cps h.1, ih h.2]
theorem nd_get {l : List Str} (nd : l.Nodup) {i j : Nat} {x : Str} (hi : l[i]? = some x) (hj : l[j]? = some x) : i = j := by
  obtain ⟨h1, e1⟩ := List.getElem?_eq_some_iff.mp hi
  obtain ⟨h2, e2⟩ := List.getElem?_eq_some_iff.mp hj
  exact (List.getElem_inj nd).mp (e1.trans e2.symm)
mutual
/-- a term's symbols tell the term -/
theorem syms_inj {fs : List Str} (nd : fs.Nodup) {B C : Int} : ∀ (t r : Tm) (a b : List V), t.wf fs B → r.wf fs C → syms t ++ a = syms r ++ b → t = r ∧ a = b
  | .var n, .var m, a, b, _, _, h => by
    have h : V.int n :: a = V.int m :: b := h
    obtain ⟨h1, h2⟩ := List.cons.inj h
    injection h1 with h1
    exact ⟨by rw [h1], h2⟩
  | .var n, .app g us, a, b, _, _, h => by
    have h : V.int n :: a = V.str g :: (symss us ++ b) := h
    cases (List.cons.inj h).1
  | .app f ts, .var m, a, b, _, _, h => by
    have h : V.str f :: (symss ts ++ a) = V.int m :: b := h
    cases (List.cons.inj h).1
  | .app f ts, .app g us, a, b, w1, w2, h => by
    have h : V.str f :: (symss ts ++ a) = V.str g :: (symss us ++ b) := h
    obtain ⟨h1, h2⟩ := List.cons.inj h
    injection h1 with h1
    subst h1
    obtain ⟨⟨i, i1, i2⟩, w1⟩ := (show (∃ k, fs[k]? = some f ∧ ts.length = ar k) ∧ Tm.wfs fs B ts from w1)
    obtain ⟨⟨j, j1, j2⟩, w2⟩ := (show (∃ k, fs[k]? = some f ∧ us.length = ar k) ∧ Tm.wfs fs C us from w2)
    cases nd_get nd i1 j1
    obtain ⟨e1, e2⟩ := symss_inj nd ts us a b w1 w2 (i2.trans j2.symm) h2
    exact ⟨by rw [e1], e2⟩
theorem symss_inj {fs : List Str} (nd : fs.Nodup) {B C : Int} : ∀ (ts us : List Tm) (a b : List V), Tm.wfs fs B ts → Tm.wfs fs C us → ts.length = us.length → symss ts ++ a = symss us ++ b → ts = us ∧ a = b
  | [], [], a, b, _, _, _, h => ⟨rfl, h⟩
  | [], _ :: _, _, _, _, _, l, _ => nomatch l
  | _ :: _, [], _, _, _, _, l, _ => nomatch l
  | t :: ts, u :: us, a, b, w1, w2, l, h => by
    have h : syms t ++ symss ts ++ a = syms u ++ symss us ++ b := h
    rw [List.append_assoc, List.append_assoc] at h
    obtain ⟨e1, h⟩ := syms_inj nd t u _ _ w1.1 w2.1 h
    obtain ⟨e2, e3⟩ := symss_inj nd ts us a b w1.2 w2.2 (Nat.succ.inj l) h
    exact ⟨by rw [e1, e2], e3⟩
end
theorem key_inj {fs : List Str} (nd : fs.Nodup) {B C : Int} {t r : Tm} (w1 : t.wf fs B) (w2 : r.wf fs C) (h : PySem.W.keyToksAll (keyL t) = PySem.W.keyToksAll (keyL r)) : t = r := by
  have h : Sum.inl 1 :: ([Sum.inl ((syms t).length : Int)] ++ (Sum.inl 1 :: (PySem.W.keyToksAll ((syms t).map rowD) ++ [Sum.inl 0]))) = Sum.inl 1 :: ([Sum.inl ((syms r).length : Int)] ++ (Sum.inl 1 :: (PySem.W.keyToksAll ((syms r).map rowD) ++ [Sum.inl 0]))) := h
  simp only [List.cons_append, List.nil_append, List.cons.injEq, true_and] at h
  have h2 := row_inj _ _ (fun y hy => syms_kind t y hy) (fun y hy => syms_kind r y hy) (List.append_cancel_right h.2)
  exact (syms_inj nd t r [] [] w1 w2 (by rw [List.append_nil, List.append_nil]; exact h2)).1
/-- the order's three cases -/
def klt (t r : Tm) : Bool := lexLt itemOrd (PySem.W.keyToksAll (keyL t)) (PySem.W.keyToksAll (keyL r))
def kcmp (t r : Tm) : Int := if klt t r = true then -1 else if klt r t = true then 1 else 0
theorem rows_dep : ∀ l : List V, PyData.depthAll (l.map rowD) ≤ 1
  | [] => Nat.zero_le _
  | y :: l => by
    have ih := rows_dep l
    have hy : (rowD y).depth ≤ 1 := by cases y <;> exact Nat.le_refl _
    show max (rowD y).depth (PyData.depthAll (l.map rowD)) ≤ 1
    omega
theorem keyL_dep (t : Tm) : PyData.depthAll (keyL t) ≤ 2 := by
  have := rows_dep (syms t)
  show max 0 (max (PyData.depthAll ((syms t).map rowD) + 1) 0) ≤ 2
  omega
theorem klt_self (t : Tm) : klt t t = false := lex_irrefl _
theorem klt_tri {fs : List Str} (nd : fs.Nodup) {B C : Int} {t r : Tm} (w1 : t.wf fs B) (w2 : r.wf fs C) (h1 : klt t r = false) (h2 : klt r t = false) : t = r := key_inj nd w1 w2 (lex_total _ _ h1 h2)
theorem klt_asym {t r : Tm} (h : klt t r = true) : klt r t = false := by
  cases e : klt r t with
  | false => rfl
  | true =>
    have := lex_trans _ _ _ h e
    have h2 := klt_self t
    rw [show klt t t = true from this] at h2
    cases h2
/-! lists of tuples -/
def LtIn (H : Hp) (p : Addr) (rows : List (List V)) : Prop := ∃ as : List Addr, H p = some (.lst (as.map V.ref)) ∧ as.length = rows.length ∧ ∀ (k : Nat) (a : Addr) (q : List V), as[k]? = some a → rows[k]? = some q → H a = some (.tup q)
theorem LtIn.same {H H' : Hp} {p : Addr} {rows : List (List V)} (h : LtIn H p rows) (s : Same H H') : LtIn H' p rows := by
  obtain ⟨as, h1, h2, h3⟩ := h
  exact ⟨as, s _ _ h1, h2, fun k a q ea eq => s _ _ (h3 k a q ea eq)⟩
theorem LtIn.push {H H' : Hp} {p a : Addr} {rows : List (List V)} {q : List V} {as : List Addr} (h2 : as.length = rows.length) (h3 : ∀ (k : Nat) (a : Addr) (q : List V), as[k]? = some a → rows[k]? = some q → H a = some (.tup q))
    (t : Tu H H') (e : H' p = some (.lst (as.map V.ref ++ [.ref a]))) (ha : H' a = some (.tup q)) : LtIn H' p (rows ++ [q]) := by
  refine ⟨as ++ [a], by rw [e, List.map_append]; rfl, by rw [List.length_append, List.length_append, h2]; rfl, fun k b r eb er => ?_⟩
  by_cases hk : k < as.length
  · rw [List.getElem?_append_left hk] at eb
    rw [List.getElem?_append_left (by omega)] at er
    exact t _ _ (h3 k b r eb er)
  · have h4 := (List.getElem?_eq_some_iff.mp eb).1
    rw [List.length_append, List.length_singleton] at h4
    have ek : k = as.length := by omega
    subst ek
    rw [List.getElem?_append_right (Nat.le_refl _), Nat.sub_self] at eb
    rw [List.getElem?_append_right (by omega), h2, Nat.sub_self] at er
    cases eb; cases er
    exact ha
/-- one list behind another -/
theorem LtIn.app {H H' : Hp} {p b r : Addr} {xs ys : List (List V)} {as bs : List Addr} (h2 : as.length = xs.length) (h3 : ∀ (k : Nat) (a : Addr) (q : List V), as[k]? = some a → xs[k]? = some q → H a = some (.tup q))
    (g2 : bs.length = ys.length) (g3 : ∀ (k : Nat) (a : Addr) (q : List V), bs[k]? = some a → ys[k]? = some q → H a = some (.tup q)) (t : Tu H H') (e : H' r = some (.lst (as.map V.ref ++ bs.map V.ref))) : LtIn H' r (xs ++ ys) := by
  refine ⟨as ++ bs, by rw [e, List.map_append], by rw [List.length_append, List.length_append, h2, g2], fun k c q ec eq => ?_⟩
  by_cases hk : k < as.length
  · rw [List.getElem?_append_left hk] at ec
    rw [List.getElem?_append_left (by omega)] at eq
    exact t _ _ (h3 k c q ec eq)
  · rw [List.getElem?_append_right (by omega)] at ec
    rw [List.getElem?_append_right (by omega), ← h2] at eq
    exact t _ _ (g3 _ c q ec eq)
def rowV : V → List V
  | .int n => [.int 0, .int n, .str ""]
  | .str f => [.int 1, .int 0, .str f]
  | _ => [.int 1, .int 0, .str ""]
theorem row_dp {K : PySem.W.Frag} {H : Hp} {a : Addr} {y : V} (h : H a = some (.tup (rowV y))) : Dp K H (.ref a) (rowD y) := by
  cases y with
  | int n => exact .tup (SqT.of h) (.cons (.int 0) (.cons (.int n) (.cons (.str _) .nil)))
  | str f => exact .tup (SqT.of h) (.cons (.int 1) (.cons (.int 0) (.cons (.str f) .nil)))
  | _ => exact .tup (SqT.of h) (.cons (.int 1) (.cons (.int 0) (.cons (.str _) .nil)))
theorem LtIn.dp {K : PySem.W.Frag} {H : Hp} {p : Addr} {l : List V} (h : LtIn H p (l.map rowV)) : Dp K H (.ref p) (.list (l.map rowD)) := by
  obtain ⟨as, h1, h2, h3⟩ := h
  rw [List.length_map] at h2
  refine .lst (SqL.of h1) (dp_all (by rw [List.length_map, List.length_map, h2]) fun k v d e1 e2 => ?_)
  rw [List.getElem?_map] at e1 e2
  cases ea : as[k]? with
  | none => rw [ea] at e1; cases e1
  | some a =>
    cases ey : l[k]? with
    | none => rw [ey] at e2; cases e2
    | some y =>
      rw [ea] at e1; rw [ey] at e2
      cases e1; cases e2
      exact row_dp (h3 k a _ ea (by rw [List.getElem?_map, ey]; rfl))
theorem rows_lay {fs : List Str} (hn : Names fs) : ∀ l : List V, (∀ y ∈ l, (∃ n, y = .int n) ∨ ∃ f, f ∈ fs ∧ y = .str f) → PyData.canLayAll0 (l.map rowD) = true ∧ PyData.depthAll (l.map rowD) ≤ 1
  | [], _ => ⟨rfl, Nat.zero_le _⟩
  | y :: l, h => by
    have ih := rows_lay hn l fun z hz => h z (List.mem_cons_of_mem _ hz)
    have hy : (rowD y).canLay0 = true ∧ (rowD y).depth ≤ 1 := by
      rcases h y (List.mem_cons_self ..) with ⟨n, rfl⟩ | ⟨f, hf, rfl⟩
      · exact ⟨by show (true && (true && (PyData.strOk "" && true))) = true; decide +kernel, Nat.le_refl _⟩
      · refine ⟨?_, Nat.le_refl _⟩
        show (true && (true && (PyData.strOk f && true))) = true
        rw [low_ok (hn.low f hf)]; rfl
    refine ⟨?_, ?_⟩
    · show ((rowD y).canLay0 && PyData.canLayAll0 (l.map rowD)) = true
      rw [hy.1, ih.1]; rfl
    · show max (rowD y).depth (PyData.depthAll (l.map rowD)) ≤ 1
      omega
end J

/-! ### steps: a pattern with the variable 9 at one place -/
namespace J
open PySem L2
mutual
theorem sub_id (m : Int → Option Tm) : ∀ t : Tm, (∀ n ∈ occ t, (m n).getD (.var n) = .var n) → sub m t = t
  | .var n, h => h n (List.mem_singleton.mpr rfl)
  | .app f ts, h => congrArg (Tm.app f) (subs_id m ts h)
theorem subs_id (m : Int → Option Tm) : ∀ ts : List Tm, (∀ n ∈ occs ts, (m n).getD (.var n) = .var n) → subs m ts = ts
  | [], _ => rfl
  | t :: ts, h => by
    show sub m t :: subs m ts = t :: ts
    rw [sub_id m t fun n hn => h n (List.mem_append.mpr (.inl hn)), subs_id m ts fun n hn => h n (List.mem_append.mpr (.inr hn))]
end
theorem occs_mem {n : Int} : ∀ {ts : List Tm}, n ∈ occs ts ↔ ∃ t ∈ ts, n ∈ occ t
  | [] => ⟨fun h => (nomatch h), fun ⟨_, h, _⟩ => nomatch h⟩
  | t :: ts => by
    show n ∈ occ t ++ occs ts ↔ _
    rw [List.mem_append, occs_mem (ts := ts)]
    constructor
    · rintro (h | ⟨u, h1, h2⟩)
      · exact ⟨t, List.mem_cons_self .., h⟩
      · exact ⟨u, List.mem_cons_of_mem _ h1, h2⟩
    · rintro ⟨u, h1, h2⟩
      rcases List.mem_cons.mp h1 with e | h1
      · rw [e] at h2; exact .inl h2
      · exact .inr ⟨u, h1, h2⟩
/-- what stood there, put in again -/
theorem sub_rep (m : Int → Option Tm) {z : Int} {c : Tm} (hz : (m z).getD (.var z) = c) : ∀ (q : List Int) (t : Tm), at? q t = some c → z ∉ occ t → (∀ n ∈ occ (rep (.var z) q t), n ≠ z → (m n).getD (.var n) = .var n) → sub m (rep (.var z) q t) = t
  | [], t, h, _, _ => by
    cases (show some t = some c from h)
    exact hz
  | k :: q, .var _, h, _, _ => nomatch h
  | k :: q, .app f ts, h, ho, hi => by
    rw [at_cons_app] at h
    by_cases h1 : 1 ≤ k
    · rw [if_pos h1] at h
      cases ht : ts[(k - 1).toNat]? with
      | none => rw [ht] at h; cases h
      | some t =>
        rw [ht] at h
        have h : at? q t = some c := h
        have hk := (List.getElem?_eq_some_iff.mp ht).1
        have e : ts.getD (k - 1).toNat (.var z) = t := by rw [List.getD_eq_getElem?_getD, ht]; rfl
        have ho : z ∉ occs ts := ho
        have hi : ∀ n ∈ occs (ts.set (k - 1).toNat (rep (.var z) q (ts.getD (k - 1).toNat (.var z)))), n ≠ z → (m n).getD (.var n) = .var n := hi
        rw [e] at hi
        have mt := List.mem_of_getElem? ht
        have ih := sub_rep m hz q t h (fun w => ho (occs_mem.mpr ⟨t, mt, w⟩)) fun n hn => hi n (occs_mem.mpr ⟨_, List.mem_set hk _, hn⟩)
        show Tm.app f (subs m (ts.set (k - 1).toNat (rep (.var z) q (ts.getD (k - 1).toNat (.var z))))) = .app f ts
        rw [e]
        congr 1
        rw [subs_map]
        refine List.ext_getElem? fun j => ?_
        rw [List.getElem?_map, List.getElem?_set]
        by_cases hj : (k - 1).toNat = j
        · subst hj
          rw [if_pos rfl, if_pos hk, ht]
          exact congrArg some ih
        · rw [if_neg hj]
          cases gj : ts[j]? with
          | none => rfl
          | some u =>
            refine congrArg some (sub_id m u fun n hn => ?_)
            have mu := List.mem_of_getElem? gj
            refine hi n (occs_mem.mpr ⟨u, ?_, hn⟩) fun w => ho (occs_mem.mpr ⟨u, mu, by rw [← w]; exact hn⟩)
            exact List.mem_of_getElem? (i := j) (by rw [List.getElem?_set, if_neg hj, gj])
    · rw [if_neg h1] at h; cases h
end J

/-! ### sizes, places and variables behind a substitution and a replacement -/
namespace J
open PySem L2
mutual
theorem sub_szM (m : Int → Option Tm) (M D : Nat) (h1 : 1 ≤ M) : ∀ t : Tm, (∀ n ∈ occ t, ((m n).getD (.var n)).sz ≤ M ∧ ((m n).getD (.var n)).dep ≤ 1 + D) → (sub m t).sz ≤ M * t.sz ∧ (sub m t).dep ≤ t.dep + D
  | .var n, h => by
    have := h n (List.mem_singleton.mpr rfl)
    show ((m n).getD (.var n)).sz ≤ M * 1 ∧ ((m n).getD (.var n)).dep ≤ 1 + D
    rw [Nat.mul_one]; exact this
  | .app f ts, h => by
    have := subs_szM m M D h1 ts h
    show 1 + Tm.szs (subs m ts) ≤ M * (1 + Tm.szs ts) ∧ 1 + Tm.deps (subs m ts) ≤ 1 + Tm.deps ts + D
    rw [Nat.mul_add]
    omega
theorem subs_szM (m : Int → Option Tm) (M D : Nat) (h1 : 1 ≤ M) : ∀ ts : List Tm, (∀ n ∈ occs ts, ((m n).getD (.var n)).sz ≤ M ∧ ((m n).getD (.var n)).dep ≤ 1 + D) → Tm.szs (subs m ts) ≤ M * Tm.szs ts ∧ Tm.deps (subs m ts) ≤ Tm.deps ts + D
  | [], _ => ⟨Nat.zero_le _, Nat.zero_le _⟩
  | t :: ts, h => by
    have a := sub_szM m M D h1 t fun n hn => h n (List.mem_append.mpr (.inl hn))
    have b := subs_szM m M D h1 ts fun n hn => h n (List.mem_append.mpr (.inr hn))
    show (sub m t).sz + Tm.szs (subs m ts) ≤ M * (t.sz + Tm.szs ts) ∧ max (sub m t).dep (Tm.deps (subs m ts)) ≤ max t.dep (Tm.deps ts) + D
    rw [Nat.mul_add]
    omega
end
mutual
theorem sub_wf {fs : List Str} {B C : Int} (m : Int → Option Tm) : ∀ t : Tm, t.wf fs B → (∀ n ∈ occ t, ((m n).getD (.var n)).wf fs C) → (sub m t).wf fs C
  | .var n, _, h => h n (List.mem_singleton.mpr rfl)
  | .app f ts, w, h => by
    obtain ⟨⟨k, h1, h2⟩, w⟩ := (show (∃ k, fs[k]? = some f ∧ ts.length = ar k) ∧ Tm.wfs fs B ts from w)
    exact ⟨⟨k, h1, by rw [subs_map, List.length_map]; exact h2⟩, subs_wf m ts w h⟩
theorem subs_wf {fs : List Str} {B C : Int} (m : Int → Option Tm) : ∀ ts : List Tm, Tm.wfs fs B ts → (∀ n ∈ occs ts, ((m n).getD (.var n)).wf fs C) → Tm.wfs fs C (subs m ts)
  | [], _, _ => trivial
  | t :: ts, w, h => ⟨sub_wf m t w.1 fun n hn => h n (List.mem_append.mpr (.inl hn)), subs_wf m ts w.2 fun n hn => h n (List.mem_append.mpr (.inr hn))⟩
end
theorem at_wf {fs : List Str} {B : Int} : ∀ (q : List Int) (t c : Tm), at? q t = some c → t.wf fs B → c.wf fs B
  | [], t, c, h, w => by cases (show some t = some c from h); exact w
  | k :: q, .var _, _, h, _ => nomatch h
  | k :: q, .app f ts, c, h, w => by
    rw [at_cons_app] at h
    by_cases h1 : 1 ≤ k
    · rw [if_pos h1] at h
      cases ht : ts[(k - 1).toNat]? with
      | none => rw [ht] at h; cases h
      | some t =>
        rw [ht] at h
        exact at_wf q t c h (Tm.wf_of_mem w.2 (List.mem_of_getElem? ht))
    · rw [if_neg h1] at h; cases h
theorem at_occ : ∀ (q : List Int) (t c : Tm), at? q t = some c → ∀ n ∈ occ c, n ∈ occ t
  | [], t, c, h, n, hn => by cases (show some t = some c from h); exact hn
  | k :: q, .var _, _, h, _, _ => nomatch h
  | k :: q, .app f ts, c, h, n, hn => by
    rw [at_cons_app] at h
    by_cases h1 : 1 ≤ k
    · rw [if_pos h1] at h
      cases ht : ts[(k - 1).toNat]? with
      | none => rw [ht] at h; cases h
      | some t =>
        rw [ht] at h
        exact occs_mem.mpr ⟨t, List.mem_of_getElem? ht, at_occ q t c h n hn⟩
    · rw [if_neg h1] at h; cases h
theorem at_len : ∀ (q : List Int) (t c : Tm), at? q t = some c → q.length + c.dep ≤ t.dep
  | [], t, c, h => by cases (show some t = some c from h); show 0 + t.dep ≤ t.dep; omega
  | k :: q, .var _, _, h => nomatch h
  | k :: q, .app f ts, c, h => by
    rw [at_cons_app] at h
    by_cases h1 : 1 ≤ k
    · rw [if_pos h1] at h
      cases ht : ts[(k - 1).toNat]? with
      | none => rw [ht] at h; cases h
      | some t =>
        rw [ht] at h
        have ih := at_len q t c h
        have := Tm.dep_of_mem (List.mem_of_getElem? ht)
        show q.length + 1 + c.dep ≤ 1 + Tm.deps ts
        omega
    · rw [if_neg h1] at h; cases h
theorem szs_set : ∀ (l : List Tm) (j : Nat) (x y : Tm), l[j]? = some y → Tm.szs (l.set j x) + y.sz = Tm.szs l + x.sz
  | [], j, x, y, h => by simp at h
  | a :: r, 0, x, y, h => by
    have h : a = y := by simpa using h
    subst h
    show x.sz + Tm.szs r + a.sz = a.sz + Tm.szs r + x.sz
    omega
  | a :: r, j + 1, x, y, h => by
    have := szs_set r j x y (by simpa using h)
    show a.sz + Tm.szs (r.set j x) + y.sz = a.sz + Tm.szs r + x.sz
    omega
/-- what goes and what comes -/
theorem rep_sz (u : Tm) : ∀ (q : List Int) (t c : Tm), at? q t = some c → (rep u q t).sz + c.sz = t.sz + u.sz
  | [], t, c, h => by cases (show some t = some c from h); show u.sz + t.sz = t.sz + u.sz; omega
  | k :: q, .var _, _, h => nomatch h
  | k :: q, .app f ts, c, h => by
    rw [at_cons_app] at h
    by_cases h1 : 1 ≤ k
    · rw [if_pos h1] at h
      cases ht : ts[(k - 1).toNat]? with
      | none => rw [ht] at h; cases h
      | some t =>
        rw [ht] at h
        have ih := rep_sz u q t c h
        have e : ts.getD (k - 1).toNat u = t := by rw [List.getD_eq_getElem?_getD, ht]; rfl
        have := szs_set ts (k - 1).toNat (rep u q t) t ht
        show 1 + Tm.szs (ts.set (k - 1).toNat (rep u q (ts.getD (k - 1).toNat u))) + c.sz = 1 + Tm.szs ts + u.sz
        rw [e]
        omega
    · rw [if_neg h1] at h; cases h
/-- the variables of a term in which something was put -/
theorem occ_rep (u : Tm) : ∀ (q : List Int) (t : Tm), IsPos q t → ∀ n, n ∈ occ (rep u q t) → n ∈ occ t ∨ n ∈ occ u
  | [], _, _, _, h => .inr h
  | k :: q, .var _, h, _, _ => h.elim
  | k :: q, .app f ts, ⟨h1, t, ht, hp⟩, n, hn => by
    have e : ts.getD (k - 1).toNat u = t := by rw [List.getD_eq_getElem?_getD, ht]; rfl
    have hn : n ∈ occs (ts.set (k - 1).toNat (rep u q (ts.getD (k - 1).toNat u))) := hn
    rw [e] at hn
    obtain ⟨w, hw, hn⟩ := occs_mem.mp hn
    rcases List.mem_or_eq_of_mem_set hw with z | z
    · exact .inl (occs_mem.mpr ⟨w, z, hn⟩)
    · rw [z] at hn
      rcases occ_rep u q t hp n hn with z | z
      · exact .inl (occs_mem.mpr ⟨t, List.mem_of_getElem? ht, z⟩)
      · exact .inr z
theorem occ_rep_in (u : Tm) : ∀ (q : List Int) (t : Tm), IsPos q t → ∀ n ∈ occ u, n ∈ occ (rep u q t)
  | [], _, _, _, h => h
  | k :: q, .var _, h, _, _ => h.elim
  | k :: q, .app f ts, ⟨h1, t, ht, hp⟩, n, hn => by
    have hk := (List.getElem?_eq_some_iff.mp ht).1
    have e : ts.getD (k - 1).toNat u = t := by rw [List.getD_eq_getElem?_getD, ht]; rfl
    show n ∈ occs (ts.set (k - 1).toNat (rep u q (ts.getD (k - 1).toNat u)))
    rw [e]
    exact occs_mem.mpr ⟨_, List.mem_set hk _, occ_rep_in u q t hp n hn⟩
/-- a place stays a place -/
theorem isPos_sub (m : Int → Option Tm) : ∀ (q : List Int) (t : Tm), IsPos q t → IsPos q (sub m t)
  | [], _, _ => trivial
  | k :: q, .var _, h => h.elim
  | k :: q, .app f ts, ⟨h1, t, ht, hp⟩ => ⟨h1, sub m t, by rw [subs_map, List.getElem?_map, ht]; rfl, isPos_sub m q t hp⟩
theorem sub_rep_out (m : Int → Option Tm) (u : Tm) : ∀ (q : List Int) (t : Tm), IsPos q t → sub m (rep u q t) = rep (sub m u) q (sub m t)
  | [], _, _ => rfl
  | k :: q, .var _, h => h.elim
  | k :: q, .app f ts, ⟨h1, t, ht, hp⟩ => by
    have e : ts.getD (k - 1).toNat u = t := by rw [List.getD_eq_getElem?_getD, ht]; rfl
    have e2 : (subs m ts).getD (k - 1).toNat (sub m u) = sub m t := by rw [List.getD_eq_getElem?_getD, subs_map, List.getElem?_map, ht]; rfl
    show Tm.app f (subs m (ts.set (k - 1).toNat (rep u q (ts.getD (k - 1).toNat u)))) = Tm.app f ((subs m ts).set (k - 1).toNat (rep (sub m u) q ((subs m ts).getD (k - 1).toNat (sub m u))))
    rw [e, e2, subs_map, List.map_set, sub_rep_out m u q t hp, ← subs_map]
/-- xs[-1] -/
theorem at_neg1 {xs : List V} {v : V} (h : xs[xs.length - 1]? = some v) : atI xs (0 - 1) = some v := by
  have hn : xs ≠ [] := fun z => by rw [z] at h; simp at h
  have h1 := List.dropLast_concat_getLast hn
  have h2 : xs.getLast hn = v := by rw [List.getLast_eq_getElem]; exact (List.getElem?_eq_some_iff.mp h).2
  rw [← h1, h2]; exact atI_last _ _
theorem pos_ints : ∀ (q : List Int) (t : Tm), IsPos q t → ∀ k ∈ q, 1 ≤ k ∧ k ≤ (t.sz : Int)
  | [], _, _, k, hk => nomatch hk
  | _ :: _, .var _, h, _, _ => h.elim
  | j :: q, .app f ts, ⟨h1, t, ht, hp⟩, k, hk => by
    have hl := (List.getElem?_eq_some_iff.mp ht).1
    have := Tm.len_le ts
    have h3 := Tm.sz_arg (List.mem_of_getElem? ht)
    show 1 ≤ k ∧ k ≤ ((1 + Tm.szs ts : Nat) : Int)
    rcases List.mem_cons.mp hk with e | hk
    · subst e; omega
    · have := pos_ints q t hp k hk
      omega
/-! lists without a number twice -/
theorem nd_below : ∀ (B : Nat) (l : List Int), l.Nodup → (∀ x ∈ l, 0 ≤ x ∧ x < (B : Int)) → l.length ≤ B
  | 0, [], _, _ => Nat.le_refl _
  | 0, x :: _, _, h => by have := h x (List.mem_cons_self ..); omega
  | B + 1, l, nd, h => by
    have h1 : ((l.erase (B : Int)).length) ≤ B := nd_below B _ (nd.erase _) fun x hx => by
      have h2 := h x (List.mem_of_mem_erase hx)
      have h3 : x ≠ (B : Int) := fun e => by rw [e] at hx; exact nd.not_mem_erase hx
      omega
    have h2 := List.length_erase (a := (B : Int)) (l := l)
    by_cases z : (B : Int) ∈ l
    · rw [if_pos z] at h2; omega
    · rw [if_neg z] at h2; omega
theorem nd_same {l1 l2 : List Int} (h1 : l1.Nodup) (h2 : l2.Nodup) (h : ∀ x, x ∈ l1 ↔ x ∈ l2) : l1.length = l2.length := ((List.perm_ext_iff_of_nodup h1 h2).mpr h).length_eq
/-! tables -/
theorem look_app : ∀ (a b : List (Int × Tm)) (n : Int), look (a ++ b) n = (look a n).or (look b n)
  | [], _, _ => rfl
  | x :: a, b, n => by
    show (if x.1 = n then some x.2 else look (a ++ b) n) = (if x.1 = n then some x.2 else look a n).or (look b n)
    by_cases e : x.1 = n
    · rw [if_pos e, if_pos e]; rfl
    · rw [if_neg e, if_neg e]; exact look_app a b n
theorem look_some {tb : List (Int × Tm)} {n : Int} : look tb n ≠ none ↔ n ∈ tb.map (·.1) := by
  induction tb with
  | nil => exact ⟨fun h => absurd rfl h, fun h => nomatch h⟩
  | cons x l ih =>
    show (if x.1 = n then some x.2 else look l n) ≠ none ↔ n ∈ x.1 :: l.map (·.1)
    by_cases e : x.1 = n
    · rw [if_pos e]; exact ⟨fun _ => by rw [e]; exact List.mem_cons_self .., fun _ z => nomatch z⟩
    · rw [if_neg e, ih, List.mem_cons]
      exact ⟨.inr, fun z => z.elim (fun z => absurd z.symm e) id⟩
theorem look_ids {l : List Int} {n : Int} (h : n ∈ l) : look (l.map fun n => (n, Tm.var n)) n = some (.var n) := by
  induction l with
  | nil => cases h
  | cons a r ih =>
    show (if a = n then some (Tm.var a) else look (r.map fun n => (n, Tm.var n)) n) = _
    by_cases e : a = n
    · rw [if_pos e, e]
    · rw [if_neg e]; exact ih ((List.mem_cons.mp h).elim (fun z => absurd z.symm e) id)
/-- a step of the document: the equation L = R with the values tb, at q, leads from t to t' -/
structure Stp (fs : List Str) (t t' : Tm) (fwd : Bool) (q : List Int) (tb : List (Int × Tm)) (L R : Tm) : Prop where
  hat : at? q t = some (sub (look tb) (if fwd then L else R))
  res : t' = rep (sub (look tb) (if fwd then R else L)) q t
  len : tb.length = (adds (vars L) (vars R)).length
  has : ∀ n ∈ adds (vars L) (vars R), look tb n ≠ none
  few : tb.length ≤ 10
  nd : (tb.map (·.1)).Nodup
  wl : L.wf fs 10
  wr : R.wf fs 10
  wt : ∀ x ∈ tb, (0 ≤ x.1 ∧ x.1 < 10) ∧ x.2.wf fs 9 ∧ x.2.sz ≤ t.sz + 4 ∧ x.2.dep ≤ t.dep + 2
  zl : L.sz ≤ t.sz + 5 ∧ L.dep ≤ t.dep + 2
  zr : R.sz ≤ t.sz + 5 ∧ R.dep ≤ t.dep + 2
  w' : t'.wf fs 9
  z' : t'.sz ≤ t.sz + 16
  d' : t'.dep ≤ t.dep + 2
  du : (sub (look tb) (if fwd then R else L)).dep ≤ (sub (look tb) (if fwd then L else R)).dep + 2
  zu : (sub (look tb) (if fwd then R else L)).sz ≤ t.sz + 16
/-- the table of a drawn step: what the law puts into it -/
theorem stp_of {fs : List Str} {t c0 c N N1 : Tm} {q q1 : List Int} {tb : List (Int × Tm)} {l : List (Int × Tm)} (wt : t.wf fs 9) (hq : at? q t = some c0) (hc : at? q1 c0 = some c)
    (htb : tb = (9, c) :: ((vars (rep (.var 9) q1 c0)).filter (· ≠ 9)).map (fun n => (n, Tm.var n)) ++ l) (nd : (tb.map (·.1)).Nodup) (hl : ∀ x ∈ l, x.1 ∈ vars N1 ∧ x.2.wf fs 9 ∧ x.2.sz ≤ 4 ∧ x.2.dep ≤ 2) (hN1 : ∀ n ∈ vars N1, n ∈ tb.map (·.1))
    (wN : N.wf fs 9) (zN : N.sz ≤ 4) (dN : N.dep ≤ 2) (hN : N1 = N ∨ ∃ q2, IsPos q2 N ∧ N1 = rep (.var 9) q2 N) (fwd : Bool) {L R : Tm} (eL : (if fwd then L else R) = rep (.var 9) q1 c0) (eR : (if fwd then R else L) = N1) :
    Stp fs t (rep (sub (look tb) N1) q t) fwd q tb L R := by
  have ip1 : IsPos q1 c0 := (isPos_at q1 c0).mpr ⟨c, hc⟩
  have ip : IsPos q t := (isPos_at q t).mpr ⟨c0, hq⟩
  have zc := at_sz _ _ _ hc
  have z0 := at_sz _ _ _ hq
  have l0 := at_len _ _ _ hq
  have l1 := at_len _ _ _ hc
  have w0 := at_wf _ _ _ hq wt
  have wc := at_wf _ _ _ hc w0
  have cp := c.dep_pos
  have c0p := c0.dep_pos
  have tp := t.dep_pos
  have cz := c.sz_pos
  have one : (Tm.var 9).sz = 1 := rfl
  have one' : (Tm.var 9).dep = 1 := rfl
  have w9 : (Tm.var 9).wf fs 10 := ⟨by decide, by decide⟩
  -- the old side
  have wO : (rep (.var 9) q1 c0).wf fs 10 := rep_wf w9 q1 c0 (w0.mono (by decide)) ip1
  have zO := rep_sz (.var 9) q1 c0 c hc
  have dO := (rep_dep (.var 9) q1 c0 ip1).1
  have o9 : (9 : Int) ∉ occ c0 := fun z => by have := (occ_wf c0 w0 9 z).2; omega
  have in9 : (9 : Int) ∈ occ (rep (.var 9) q1 c0) := occ_rep_in (.var 9) q1 c0 ip1 9 (List.mem_singleton.mpr rfl)
  have lk9 : look tb 9 = some c := by rw [htb]; rfl
  have lkO : ∀ n ∈ occ (rep (.var 9) q1 c0), n ≠ 9 → look tb n = some (.var n) := fun n hn ne => by
    rw [htb, look_app]
    have e : look ((9, c) :: ((vars (rep (.var 9) q1 c0)).filter (· ≠ 9)).map (fun n => (n, Tm.var n))) n = some (.var n) := by
      show (if (9 : Int) = n then some c else look (((vars (rep (.var 9) q1 c0)).filter (· ≠ 9)).map (fun n => (n, Tm.var n))) n) = _
      rw [if_neg (fun z => ne z.symm)]
      exact look_ids (List.mem_filter.mpr ⟨(vars_mem _ _).mpr hn, by simpa using ne⟩)
    rw [e]; rfl
  have sO : sub (look tb) (rep (.var 9) q1 c0) = c0 := sub_rep (look tb) (by rw [lk9]; rfl) q1 c0 hc o9 fun n hn ne => by rw [lkO n hn ne]; rfl
  -- the values
  have vals : ∀ x ∈ tb, (x.1 = 9 ∧ x.2 = c) ∨ (x.1 ≠ 9 ∧ x.1 ∈ vars (rep (.var 9) q1 c0) ∧ x.2 = .var x.1) ∨ x ∈ l := fun x hx => by
    rw [htb] at hx
    rcases List.mem_append.mp hx with h | h
    · rcases List.mem_cons.mp h with h | h
      · rw [h]; exact .inl ⟨rfl, rfl⟩
      · obtain ⟨n, hn, rfl⟩ := List.mem_map.mp h
        obtain ⟨h1, h2⟩ := List.mem_filter.mp hn
        exact .inr (.inl ⟨by simpa using h2, h1, rfl⟩)
    · exact .inr (.inr h)
  have wO9 : ∀ n ∈ occ (rep (.var 9) q1 c0), n ≠ 9 → 0 ≤ n ∧ n < 9 := fun n hn ne => by
    rcases occ_rep (.var 9) q1 c0 ip1 n hn with z | z
    · exact occ_wf c0 w0 n z
    · exact absurd (List.mem_singleton.mp z) ne
  have wN1 : N1.wf fs 10 := by
    rcases hN with e | ⟨q2, ip2, e⟩
    · rw [e]; exact wN.mono (by decide)
    · rw [e]; exact rep_wf w9 q2 N (wN.mono (by decide)) ip2
  have wvals : ∀ x ∈ tb, (0 ≤ x.1 ∧ x.1 < 10) ∧ x.2.wf fs 9 ∧ x.2.sz ≤ t.sz + 4 ∧ x.2.dep ≤ t.dep + 2 := fun x hx => by
    rcases vals x hx with ⟨h1, h2⟩ | ⟨h1, h2, h3⟩ | h
    · rw [h1, h2]; exact ⟨by decide, wc, by omega, by omega⟩
    · have := wO9 x.1 ((vars_mem _ _).mp h2) h1
      have e1 : x.2.sz = 1 := by rw [h3]; rfl
      have e2 : x.2.dep = 1 := by rw [h3]; rfl
      have e3 : x.2.wf fs 9 := by rw [h3]; exact this
      exact ⟨by omega, e3, by omega, by omega⟩
    · obtain ⟨h1, h2, h3, h4⟩ := hl x h
      have := occ_wf N1 wN1 x.1 ((vars_mem _ _).mp h1)
      exact ⟨this, h2, by omega, by omega⟩
  have low : ∀ n, n ≠ 9 → ((look tb n).getD (.var n)).sz ≤ 4 ∧ ((look tb n).getD (.var n)).dep ≤ 1 + 1 := fun n ne => by
    cases e : look tb n with
    | none => exact ⟨by show 1 ≤ 4; decide, by show 1 ≤ 2; decide⟩
    | some u =>
      have h := vals _ (look_mem e)
      rcases h with ⟨h1, _⟩ | ⟨_, _, h3⟩ | h
      · exact absurd h1 ne
      · have h3 : u = .var n := h3
        rw [h3]; exact ⟨by show 1 ≤ 4; decide, by show 1 ≤ 2; decide⟩
      · exact ⟨(hl _ h).2.2.1, (hl _ h).2.2.2⟩
  have nN : ∀ n ∈ occ N, n ≠ 9 := fun n hn z => by have := (occ_wf N wN n hn).2; omega
  have sN := sub_szM (look tb) 4 1 (by decide) N fun n hn => low n (nN n hn)
  have wfv : ∀ n, n ∈ tb.map (·.1) → ((look tb n).getD (.var n)).wf fs 9 := fun n hn => by
    cases e : look tb n with
    | none => exact absurd e (look_some.mpr hn)
    | some u => exact (wvals _ (look_mem e)).2.1
  have wU : (sub (look tb) N1).wf fs 9 := sub_wf (look tb) N1 wN1 fun n hn => wfv n (hN1 n ((vars_mem _ _).mpr hn))
  have zU : (sub (look tb) N1).sz ≤ c.sz + 16 ∧ (sub (look tb) N1).dep ≤ max 3 (1 + c.dep) := by
    rcases hN with e | ⟨q2, ip2, e⟩
    · rw [e]; omega
    · obtain ⟨u2, hu2⟩ := (isPos_at q2 N).mp ip2
      have l2 := at_len _ _ _ hu2
      have p2 := u2.dep_pos
      have e1 : sub (look tb) (.var 9) = c := by show (look tb 9).getD (.var 9) = c; rw [lk9]; rfl
      rw [e, sub_rep_out (look tb) (.var 9) q2 N ip2, e1]
      have := rep_dep c q2 (sub (look tb) N) (isPos_sub (look tb) q2 N ip2)
      omega
  have zN1 : N1.sz ≤ 5 ∧ N1.dep ≤ 2 := by
    rcases hN with e | ⟨q2, ip2, e⟩
    · rw [e]; omega
    · obtain ⟨u2, hu2⟩ := (isPos_at q2 N).mp ip2
      have l2 := at_len _ _ _ hu2
      have p2 := u2.dep_pos
      have := rep_dep (.var 9) q2 N ip2
      rw [e]; omega
  have rz := rep_sz (sub (look tb) N1) q t c0 hq
  have rd := (rep_dep (sub (look tb) N1) q t ip).1
  have keys : ∀ n, n ∈ tb.map (·.1) ↔ n ∈ occ (rep (.var 9) q1 c0) ∨ n ∈ occ N1 := fun n => by
    constructor
    · intro h
      obtain ⟨x, hx, rfl⟩ := List.mem_map.mp h
      rcases vals x hx with ⟨h1, _⟩ | ⟨_, h2, _⟩ | h
      · rw [h1]; exact .inl in9
      · exact .inl ((vars_mem _ _).mp h2)
      · exact .inr ((vars_mem _ _).mp (hl x h).1)
    · rintro (h | h)
      · by_cases ne : n = 9
        · rw [ne]; exact look_some.mp (by rw [lk9]; exact fun z => nomatch z)
        · exact look_some.mp (by rw [lkO n h ne]; exact fun z => nomatch z)
      · exact hN1 n ((vars_mem _ _).mpr h)
  have memLR : ∀ n, n ∈ adds (vars L) (vars R) ↔ n ∈ tb.map (·.1) := fun n => by
    rw [adds_mem, vars_mem, vars_mem, keys]
    cases fwd
    · rw [← show R = rep (.var 9) q1 c0 from eL, ← show L = N1 from eR]; exact Or.comm
    · rw [← show L = rep (.var 9) q1 c0 from eL, ← show R = N1 from eR]
  have ln : tb.length = (adds (vars L) (vars R)).length := by
    rw [← List.length_map (f := fun x : Int × Tm => x.1)]
    exact nd_same nd (adds_nodup _ _ (adds_nodup _ _ List.nodup_nil)) fun n => (memLR n).symm
  have fw : tb.length ≤ 10 := by
    rw [← List.length_map (f := fun x : Int × Tm => x.1)]
    refine nd_below 10 _ nd fun n hn => ?_
    obtain ⟨x, hx, rfl⟩ := List.mem_map.mp hn
    exact (wvals x hx).1
  have two : (L.wf fs 10 ∧ L.sz ≤ t.sz + 5 ∧ L.dep ≤ t.dep + 2) ∧ (R.wf fs 10 ∧ R.sz ≤ t.sz + 5 ∧ R.dep ≤ t.dep + 2) := by
    have hO : (rep (.var 9) q1 c0).wf fs 10 ∧ (rep (.var 9) q1 c0).sz ≤ t.sz + 5 ∧ (rep (.var 9) q1 c0).dep ≤ t.dep + 2 := ⟨wO, by omega, by omega⟩
    have hN : N1.wf fs 10 ∧ N1.sz ≤ t.sz + 5 ∧ N1.dep ≤ t.dep + 2 := ⟨wN1, by omega, by omega⟩
    cases fwd
    · rw [show R = rep (.var 9) q1 c0 from eL, show L = N1 from eR]; exact ⟨hN, hO⟩
    · rw [show L = rep (.var 9) q1 c0 from eL, show R = N1 from eR]; exact ⟨hO, hN⟩
  refine { hat := by rw [eL, sO]; exact hq, res := by rw [eR], len := ln, has := fun n hn => look_some.mpr ((memLR n).mp hn), few := fw, nd := nd, wl := two.1.1, wr := two.2.1, wt := wvals, zl := two.1.2, zr := two.2.2, w' := rep_wf wU q t wt ip, z' := by omega, d' := by omega, du := by rw [eR, eL, sO]; omega, zu := by rw [eR]; omega }
end J

namespace J
open PySem L2
/-! ### while xs:, the measure told by the invariant -/
theorem least_of (P : Nat → Prop) (h : ∃ m, P m) : ∃ m, P m ∧ ∀ k, P k → m ≤ k := by
  obtain ⟨m, hm⟩ := h
  induction m using Nat.strongRecOn with
  | _ m ih =>
    by_cases z : ∃ k, k < m ∧ P k
    · obtain ⟨k, hk, pk⟩ := z
      exact ih k hk pk
    · exact ⟨m, hm, fun k pk => Nat.le_of_not_lt fun hk => z ⟨k, hk, pk⟩⟩
open Classical in
noncomputable def mu (P : Nat → L2.St → Hp → Prop) (σ : L2.St) (H : Hp) : Nat := if h : ∃ m, P m σ H then Classical.choose (least_of _ h) else 0
theorem mu_at {P : Nat → L2.St → Hp → Prop} {σ : L2.St} {H : Hp} (h : ∃ m, P m σ H) : P (mu P σ H) σ H := by
  unfold mu
  rw [dif_pos h]
  exact (Classical.choose_spec (least_of _ h)).1
theorem mu_le {P : Nat → L2.St → Hp → Prop} {σ : L2.St} {H : Hp} {m : Nat} (h : P m σ H) : mu P σ H ≤ m := by
  unfold mu
  rw [dif_pos ⟨m, h⟩]
  exact (Classical.choose_spec (least_of _ ⟨m, h⟩)).2 m h
/-- what a turn leaves -/
def WLess (P : Nat → L2.St → Hp → Prop) (m : Nat) (σ : L2.St) (H : Hp) : Prop := (∃ k, P k σ H) ∧ mu P σ H < m
theorem less_of {P : Nat → L2.St → Hp → Prop} {m k : Nat} {σ : L2.St} {H : Hp} (h : P k σ H) (hk : k < m) : WLess P m σ H := ⟨⟨k, h⟩, Nat.lt_of_le_of_lt (mu_le h) hk⟩
theorem while_listM {K : PySem.W.Frag} {i : Nat} {tb : TS} {D : Ends} {σ : L2.St} {H : Hp} (P : Nat → L2.St → Hp → Prop) (m0 : Nat) (h0 : P m0 σ H)
    (hs : ∀ m σ H, P m σ H → ∃ p xs, σ[i]? = some (some (.ref p)) ∧ H p = some (.lst xs) ∧ (xs = [] → D.nx σ H) ∧ (xs ≠ [] → tb { D with nx := WLess P m, ct := WLess P m, bk := D.nx } σ H)) :
    tWhile (fun σ H Q => tVar i σ H fun x H' => ∃ k, TruV K x H' k ∧ Q k H') tb D σ H :=
  while_list (fun σ H => ∃ m, P m σ H) (mu P) ⟨m0, h0⟩ fun σ H p => hs _ σ H (mu_at p)
end J

/-! ### list(zip(a, b)) over two lists or two tuples -/
namespace J
open PySem PySem.Calls PySem.Spec PyProof.Rows PyProof.V L2 PySem.W
section
variable {prog : Program} {w : World} {A : Around} {E : Value → Shared → Prop} {s : Shared}
theorem zipT_next_item_held {z TI TO T i1 i2 l1 l2 : Addr} {f : Bool} {oT : Obj} {k1 k2 : Nat} {xs ys : Array Value} {x y : Value} {Q : Value → Shared → Prop} (D : ZipApart z TI TO i1 i2 l1 l2)
    (hz : IsZipHeld s.heap z TI TO T f) (hT : s.heap.get? T = some oT) (hTI : IsPair s.heap TI (.ref i1) (.ref i2))
    (h1 : s.heap.IsTupleIter i1 l1 k1) (h2 : s.heap.IsTupleIter i2 l2 k2) (hl1 : s.heap.IsTuple l1 xs) (hl2 : s.heap.IsTuple l2 ys) (hx : xs[k1]? = some x) (hy : ys[k2]? = some y)
    (hQ : ∀ h', IsZipHeld h' z TI TO T true → h'.IsTupleIter i1 l1 (k1 + 1) → h'.IsTupleIter i2 l2 (k2 + 1) → IsPair h' s.heap.objs.size x y → h'.objs.size = s.heap.objs.size + 1 →
      (∀ c o, c ≠ z → c ≠ i1 → c ≠ i2 → s.heap.get? c = some o → h'.get? c = some o) → Q (.ref s.heap.objs.size) { s with heap := h' }) :
    wpAny (model prog w) A (Builtin.«zip.__next__» ⟨[.ref z], []⟩) (fun fin s' => ∃ v, fin = .done (.ret v) ∧ Q v s') E s := by
  show wpAny _ _ (field (.ref z) 2 >>= _) _ _ _
  refine wpAny_bind (wpAny_field hz rfl (x := .bool false) rfl ?_)
  show wpAny _ _ (field (.ref z) 3 >>= _) _ _ _
  refine wpAny_bind (wpAny_field hz rfl (x := .ref TI) rfl ?_)
  refine wpAny_bind (wpAny_seqItems hTI rfl ?_)
  show wpAny _ _ (Builtin.SmallTypes.ownedTupleIsFree (.ref z) >>= _) _ _ _
  refine wpAny_bind (wpAny_tupleHeld_zip hz hT fun h₁ hz₁ hs₁ => ?_)
  simp only [Bool.false_eq_true, if_false]
  refine wpAny_bind ?_
  rw [← Array.forIn_toList]
  simp only [List.forIn_cons, List.forIn_nil]
  refine wpAny_bind (wpAny_bind (wpAny_holding ?_))
  show wpAny _ _ (Builtin.SmallTypes.nextOf (.ref i1) >>= _) _ _ _
  refine wpAny_bind (RZ.nextOf_tuple_item (s := { s with heap := h₁ }) (h1.extBut hs₁.extBut D.i1z) (hl1.extBut hs₁.extBut D.l1z) hx fun h₂ h1₂ hs₂ => wpAny_pure ?_)
  refine wpAny_pure ?_
  refine wpAny_bind (wpAny_bind (wpAny_holding ?_))
  show wpAny _ _ (Builtin.SmallTypes.nextOf (.ref i2) >>= _) _ _ _
  refine wpAny_bind (RZ.nextOf_tuple_item (s := { s with heap := h₂ }) ((h2.extBut hs₁.extBut D.i2z).extBut hs₂.extBut D.i12.symm) ((hl2.extBut hs₁.extBut D.l2z).extBut hs₂.extBut D.l2i1) hy fun h₃ h2₃ hs₃ => wpAny_pure ?_)
  refine wpAny_pure (wpAny_pure ?_)
  show wpAny _ _ (newTuple [x, y] >>= _) _ _ _
  refine wpAny_bind (wpAny_newTuple ?_)
  have hsz : h₃.objs.size = s.heap.objs.size := by rw [hs₃.1, hs₂.1, hs₁.1]
  have hz₃ : IsZipHeld h₃ z TI TO T true := hs₃.extBut _ _ D.i2z.symm (hs₂.extBut _ _ D.i1z.symm hz₁)
  have hk : ∀ c o, c ≠ z → c ≠ i1 → c ≠ i2 → s.heap.get? c = some o → h₃.get? c = some o := fun c o c1 c2 c3 e => hs₃.extBut _ _ c3 (hs₂.extBut _ _ c2 (hs₁.extBut _ _ c1 e))
  have h1₃ : h₃.IsTupleIter i1 l1 (k1 + 1) := h1₂.extBut hs₃.extBut D.i12
  refine wpAny_pure ⟨_, rfl, ?_⟩
  show Q (.ref h₃.objs.size) _
  have hp : IsPair (h₃.push { cls := .type "tuple", data := .seq #[x, y] }) h₃.objs.size x y := Heap.get?_push_size _ rfl
  have hz4 : (h₃.push { cls := .type "tuple", data := .seq #[x, y] }).objs.size = h₃.objs.size + 1 := Heap.size_push ..
  rw [hsz] at hp hz4 ⊢
  exact hQ _ (Heap.get?_push_of_some _ hz₃) (h1₃.at fun o e => Heap.get?_push_of_some _ e) (h2₃.at fun o e => Heap.get?_push_of_some _ e) hp hz4 fun c o c1 c2 c3 e => Heap.get?_push_of_some _ (hk c o c1 c2 c3 e)
theorem zipT_next_end_held {z TI TO T i1 i2 l1 l2 : Addr} {f : Bool} {oT : Obj} {k1 k2 : Nat} {xs ys : Array Value} {Q : PySem.Fin → Shared → Prop} (hh : A.handled = none) (D : ZipApart z TI TO i1 i2 l1 l2)
    (hz : IsZipHeld s.heap z TI TO T f) (hT : s.heap.get? T = some oT) (hTI : IsPair s.heap TI (.ref i1) (.ref i2))
    (h1 : s.heap.IsTupleIter i1 l1 k1) (h2 : s.heap.IsTupleIter i2 l2 k2) (hl1 : s.heap.IsTuple l1 xs) (hl2 : s.heap.IsTuple l2 ys) (hend : xs[k1]? = none ∨ ys[k2]? = none)
    (hE : ∀ h' e, (∀ c o, c ≠ z → c ≠ i1 → c ≠ i2 → s.heap.get? c = some o → h'.get? c = some o) → (∃ o, h'.get? e = some o ∧ o.cls = .type "StopIteration") → E (.ref e) { s with heap := h' }) :
    wpAny (model prog w) A (Builtin.«zip.__next__» ⟨[.ref z], []⟩) Q E s := by
  show wpAny _ _ (field (.ref z) 2 >>= _) _ _ _
  refine wpAny_bind (wpAny_field hz rfl (x := .bool false) rfl ?_)
  show wpAny _ _ (field (.ref z) 3 >>= _) _ _ _
  refine wpAny_bind (wpAny_field hz rfl (x := .ref TI) rfl ?_)
  refine wpAny_bind (wpAny_seqItems hTI rfl ?_)
  show wpAny _ _ (Builtin.SmallTypes.ownedTupleIsFree (.ref z) >>= _) _ _ _
  refine wpAny_bind (wpAny_tupleHeld_zip hz hT fun h₁ hz₁ hs₁ => ?_)
  simp only [Bool.false_eq_true, if_false]
  refine wpAny_bind ?_
  rw [← Array.forIn_toList]
  simp only [List.forIn_cons, List.forIn_nil]
  refine wpAny_bind (wpAny_bind (wpAny_holding ?_))
  show wpAny _ _ (Builtin.SmallTypes.nextOf (.ref i1) >>= _) _ _ _
  cases hx : xs[k1]? with
  | none =>
    refine wpAny_bind (RZ.nextOf_tuple_end (s := { s with heap := h₁ }) hh (h1.extBut hs₁.extBut D.i1z) (hl1.extBut hs₁.extBut D.l1z) hx fun h₂ e hs₂ he => ?_)
    exact hE h₂ e (fun c o c1 c2 _ x => hs₂ _ _ c2 (hs₁.extBut _ _ c1 x)) he
  | some x =>
    have hy : ys[k2]? = none := by rcases hend with h | h; rw [hx] at h; cases h; exact h
    refine wpAny_bind (RZ.nextOf_tuple_item (s := { s with heap := h₁ }) (h1.extBut hs₁.extBut D.i1z) (hl1.extBut hs₁.extBut D.l1z) hx fun h₂ h1₂ hs₂ => wpAny_pure ?_)
    refine wpAny_pure ?_
    refine wpAny_bind (wpAny_bind (wpAny_holding ?_))
    show wpAny _ _ (Builtin.SmallTypes.nextOf (.ref i2) >>= _) _ _ _
    refine wpAny_bind (RZ.nextOf_tuple_end (s := { s with heap := h₂ }) hh ((h2.extBut hs₁.extBut D.i2z).extBut hs₂.extBut D.i12.symm) ((hl2.extBut hs₁.extBut D.l2z).extBut hs₂.extBut D.l2i1) hy fun h₃ e hs₃ he => ?_)
    exact hE h₃ e (fun c o c1 c2 c3 x => hs₃ _ _ c3 (hs₂.extBut _ _ c2 (hs₁.extBut _ _ c1 x))) he
theorem pyNext_zipT_item_held {z TI TO T i1 i2 l1 l2 : Addr} {f : Bool} {oT : Obj} {k1 k2 : Nat} {xs ys : Array Value} {x y : Value} {Q : Option Value → Shared → Prop} (D : ZipApart z TI TO i1 i2 l1 l2)
    (hz : IsZipHeld s.heap z TI TO T f) (hT : s.heap.get? T = some oT) (hTI : IsPair s.heap TI (.ref i1) (.ref i2))
    (h1 : s.heap.IsTupleIter i1 l1 k1) (h2 : s.heap.IsTupleIter i2 l2 k2) (hl1 : s.heap.IsTuple l1 xs) (hl2 : s.heap.IsTuple l2 ys) (hx : xs[k1]? = some x) (hy : ys[k2]? = some y)
    (hQ : ∀ h', IsZipHeld h' z TI TO T true → h'.IsTupleIter i1 l1 (k1 + 1) → h'.IsTupleIter i2 l2 (k2 + 1) → IsPair h' s.heap.objs.size x y → h'.objs.size = s.heap.objs.size + 1 →
      (∀ c o, c ≠ z → c ≠ i1 → c ≠ i2 → s.heap.get? c = some o → h'.get? c = some o) → Q (some (.ref s.heap.objs.size)) { s with heap := h' }) :
    wpAny (model prog w) A (pyNext (.ref z)) Q E s := by
  have hTy : s.TypeIs (.ref z) "zip" := ⟨_, hz, rfl⟩
  unfold pyNext
  exact wpAny_bind (wpAny_attempt (wpAny_callSpecial?_slot (name := Str.ofString "__next__") hTy F.slot_zip_next
    (wpAny_call_entry F.slot_zip_next hTy F.entry_zip_next
      (zipT_next_item_held D hz hT hTI h1 h2 hl1 hl2 hx hy fun h' a1 a3 a4 a5 a6 a7 => wpAny_pure (hQ h' a1 a3 a4 a5 a6 a7)) (F.args_zip_next_1 _))))
theorem pyNext_zipT_end_held {z TI TO T i1 i2 l1 l2 : Addr} {f : Bool} {oT : Obj} {k1 k2 : Nat} {xs ys : Array Value} {Q : Option Value → Shared → Prop} (hh : A.handled = none) (D : ZipApart z TI TO i1 i2 l1 l2)
    (hz : IsZipHeld s.heap z TI TO T f) (hT : s.heap.get? T = some oT) (hTI : IsPair s.heap TI (.ref i1) (.ref i2))
    (h1 : s.heap.IsTupleIter i1 l1 k1) (h2 : s.heap.IsTupleIter i2 l2 k2) (hl1 : s.heap.IsTuple l1 xs) (hl2 : s.heap.IsTuple l2 ys) (hend : xs[k1]? = none ∨ ys[k2]? = none)
    (hQ : ∀ h', (∀ c o, c ≠ z → c ≠ i1 → c ≠ i2 → s.heap.get? c = some o → h'.get? c = some o) → Q none { s with heap := h' }) : wpAny (model prog w) A (pyNext (.ref z)) Q E s := by
  have hTy : s.TypeIs (.ref z) "zip" := ⟨_, hz, rfl⟩
  unfold pyNext
  refine wpAny_bind (wpAny_attempt (wpAny_callSpecial?_slot (name := Str.ofString "__next__") hTy F.slot_zip_next
    (wpAny_call_entry F.slot_zip_next hTy F.entry_zip_next (zipT_next_end_held hh D hz hT hTI h1 h2 hl1 hl2 hend fun h' e hk he => ?_) (F.args_zip_next_1 _))))
  obtain ⟨o, ho, hc⟩ := he
  refine wpAny_bind (wpAny_isInstance (T := "StopIteration") (b := true) ⟨o, ho, hc⟩ isSubtype_stop ?_)
  exact wpAny_pure (hQ _ hk)
/-- two lists, or two tuples, and their iterators at the k-th place -/
def SeqsAt (h : Heap) (i1 i2 l1 l2 : Addr) (xs ys : Array Value) (k : Nat) : Prop :=
  (h.IsListIter i1 l1 k ∧ h.IsListIter i2 l2 k ∧ h.IsList l1 xs ∧ h.IsList l2 ys) ∨ (h.IsTupleIter i1 l1 k ∧ h.IsTupleIter i2 l2 k ∧ h.IsTuple l1 xs ∧ h.IsTuple l2 ys)
theorem SeqsAt.at {h h' : Heap} {i1 i2 l1 l2 : Addr} {xs ys : Array Value} {k : Nat} (x : SeqsAt h i1 i2 l1 l2 xs ys k) (hk : ∀ b o, b ∈ [i1, i2, l1, l2] → h.get? b = some o → h'.get? b = some o) : SeqsAt h' i1 i2 l1 l2 xs ys k := by
  rcases x with ⟨a, b, c, d⟩ | ⟨a, b, c, d⟩
  · exact .inl ⟨a.at fun o e => hk _ o (by simp) e, b.at fun o e => hk _ o (by simp) e, c.at fun o e => hk _ o (by simp) e, d.at fun o e => hk _ o (by simp) e⟩
  · exact .inr ⟨a.at fun o e => hk _ o (by simp) e, b.at fun o e => hk _ o (by simp) e, c.at fun o e => hk _ o (by simp) e, d.at fun o e => hk _ o (by simp) e⟩
theorem SeqsAt.there {h : Heap} {i1 i2 l1 l2 : Addr} {xs ys : Array Value} {k : Nat} (x : SeqsAt h i1 i2 l1 l2 xs ys k) : (∃ o, h.get? i1 = some o) ∧ (∃ o, h.get? i2 = some o) := by
  rcases x with ⟨⟨o1, e1, _⟩, ⟨o2, e2, _⟩, _⟩ | ⟨⟨o1, e1, _⟩, ⟨o2, e2, _⟩, _⟩
  · exact ⟨⟨_, e1⟩, ⟨_, e2⟩⟩
  · exact ⟨⟨_, e1⟩, ⟨_, e2⟩⟩
/-- a zip ahead of its k-th turn; what it gave out stands, and is not S -/
def ZSt (z TI TO i1 i2 l1 l2 S : Addr) (xs ys : Array Value) (k : Nat) (h : Heap) : Prop :=
  IsPair h TI (.ref i1) (.ref i2) ∧ SeqsAt h i1 i2 l1 l2 xs ys k ∧ ((IsZip h z TI TO .none ∧ ∃ a b, IsPair h TO a b) ∨ ∃ T f oT, IsZipHeld h z TI TO T f ∧ h.get? T = some oT ∧ T ≠ z ∧ T ≠ i1 ∧ T ≠ i2 ∧ T ≠ S)
theorem ZSt.keep {z TI TO i1 i2 l1 l2 S : Addr} {xs ys : Array Value} {k : Nat} {h h' : Heap} (x : ZSt z TI TO i1 i2 l1 l2 S xs ys k h) (hS : S ∉ [z, TI, TO, i1, i2, l1, l2]) (hk : ∀ b o, b ≠ S → h.get? b = some o → h'.get? b = some o) : ZSt z TI TO i1 i2 l1 l2 S xs ys k h' := by
  simp only [List.mem_cons, List.not_mem_nil, or_false, not_or] at hS
  obtain ⟨dz, dTI, dTO, d1, d2, d3, d4⟩ := hS
  obtain ⟨hTI, hs, hz⟩ := x
  refine ⟨hk _ _ (Ne.symm dTI) hTI, hs.at fun b o hb e => hk b o (fun z => ?_) e, ?_⟩
  · simp only [List.mem_cons, List.not_mem_nil, or_false] at hb
    rcases hb with q | q | q | q
    · exact d1 (z.symm.trans q)
    · exact d2 (z.symm.trans q)
    · exact d3 (z.symm.trans q)
    · exact d4 (z.symm.trans q)
  · rcases hz with ⟨hz, a, b, hTO⟩ | ⟨T, f, oT, hz, hT, r1, r2, r3, r4⟩
    · exact .inl ⟨hk _ _ (Ne.symm dz) hz, a, b, hk _ _ (Ne.symm dTO) hTO⟩
    · exact .inr ⟨T, f, oT, hk _ _ (Ne.symm dz) hz, hk _ _ r4 hT, r1, r2, r3, r4⟩
theorem zst_item {z TI TO i1 i2 l1 l2 S : Addr} {xs ys : Array Value} {k : Nat} {x y : Value} {Q : Option Value → Shared → Prop} (D : ZipApart z TI TO i1 i2 l1 l2) (hst : ZSt z TI TO i1 i2 l1 l2 S xs ys k s.heap) (hS : S < s.heap.objs.size) (hx : xs[k]? = some x) (hy : ys[k]? = some y)
    (hQ : ∀ h', ZSt z TI TO i1 i2 l1 l2 S xs ys (k + 1) h' → h'.get? s.heap.objs.size = some { cls := .type "tuple", data := .seq #[x, y] } → h'.objs.size = s.heap.objs.size + 1 →
      (∀ b o, b ∉ [z, TO, i1, i2] → s.heap.get? b = some o → h'.get? b = some o) → Q (some (.ref s.heap.objs.size)) { s with heap := h' }) : wpAny (model prog w) A (pyNext (.ref z)) Q E s := by
  obtain ⟨hTI, hs, hz⟩ := hst
  obtain ⟨⟨o1, e1⟩, ⟨o2, e2⟩⟩ := hs.there
  have n1 : s.heap.objs.size ≠ i1 := Nat.ne_of_gt (Heap.lt_size e1)
  have n2 : s.heap.objs.size ≠ i2 := Nat.ne_of_gt (Heap.lt_size e2)
  have nS : s.heap.objs.size ≠ S := Nat.ne_of_gt hS
  rcases hz with ⟨hz, a, b, hTO⟩ | ⟨T, f, oT, hz, hT, r1, r2, r3, r4⟩
  · have nz : s.heap.objs.size ≠ z := Nat.ne_of_gt (Heap.lt_size hz)
    rcases hs with ⟨h1, h2, hl1, hl2⟩ | ⟨h1, h2, hl1, hl2⟩
    · refine wpAny_pyNext_zip_item D hz hTI hTO h1 h2 hl1 hl2 hx hy fun h' a1 a2 a3 a4 a5 a6 hk => ?_
      exact hQ h' ⟨hk _ _ D.TIz D.TITO D.TIi1 D.TIi2 hTI, .inl ⟨a3, a4, hl1.at fun o e => hk _ o D.l1z D.l1TO D.l1i1 D.l1i2 e, hl2.at fun o e => hk _ o D.l2z D.l2TO D.l2i1 D.l2i2 e⟩, .inr ⟨_, false, _, a1, a5, nz, n1, n2, nS⟩⟩ a5 a6
        fun c o hc e => hk c o (fun x => hc (by simp [x])) (fun x => hc (by simp [x])) (fun x => hc (by simp [x])) (fun x => hc (by simp [x])) e
    · refine RZ.pyNext_zipT_item D hz hTI hTO h1 h2 hl1 hl2 hx hy fun h' a1 a2 a3 a4 a5 a6 hk => ?_
      exact hQ h' ⟨hk _ _ D.TIz D.TITO D.TIi1 D.TIi2 hTI, .inr ⟨a3, a4, hl1.at fun o e => hk _ o D.l1z D.l1TO D.l1i1 D.l1i2 e, hl2.at fun o e => hk _ o D.l2z D.l2TO D.l2i1 D.l2i2 e⟩, .inr ⟨_, false, _, a1, a5, nz, n1, n2, nS⟩⟩ a5 a6
        fun c o hc e => hk c o (fun x => hc (by simp [x])) (fun x => hc (by simp [x])) (fun x => hc (by simp [x])) (fun x => hc (by simp [x])) e
  · rcases hs with ⟨h1, h2, hl1, hl2⟩ | ⟨h1, h2, hl1, hl2⟩
    · refine wpAny_pyNext_zip_item_held D hz hT hTI h1 h2 hl1 hl2 hx hy fun h' a1 a3 a4 a5 a6 hk => ?_
      exact hQ h' ⟨hk _ _ D.TIz D.TIi1 D.TIi2 hTI, .inl ⟨a3, a4, hl1.at fun o e => hk _ o D.l1z D.l1i1 D.l1i2 e, hl2.at fun o e => hk _ o D.l2z D.l2i1 D.l2i2 e⟩, .inr ⟨T, true, oT, a1, hk _ _ r1 r2 r3 hT, r1, r2, r3, r4⟩⟩ a5 a6
        fun c o hc e => hk c o (fun x => hc (by simp [x])) (fun x => hc (by simp [x])) (fun x => hc (by simp [x])) e
    · refine pyNext_zipT_item_held D hz hT hTI h1 h2 hl1 hl2 hx hy fun h' a1 a3 a4 a5 a6 hk => ?_
      exact hQ h' ⟨hk _ _ D.TIz D.TIi1 D.TIi2 hTI, .inr ⟨a3, a4, hl1.at fun o e => hk _ o D.l1z D.l1i1 D.l1i2 e, hl2.at fun o e => hk _ o D.l2z D.l2i1 D.l2i2 e⟩, .inr ⟨T, true, oT, a1, hk _ _ r1 r2 r3 hT, r1, r2, r3, r4⟩⟩ a5 a6
        fun c o hc e => hk c o (fun x => hc (by simp [x])) (fun x => hc (by simp [x])) (fun x => hc (by simp [x])) e
theorem zst_done {z TI TO i1 i2 l1 l2 S : Addr} {xs ys : Array Value} {k : Nat} {Q : Option Value → Shared → Prop} (hh : A.handled = none) (D : ZipApart z TI TO i1 i2 l1 l2) (hst : ZSt z TI TO i1 i2 l1 l2 S xs ys k s.heap) (hend : xs[k]? = none ∨ ys[k]? = none)
    (hQ : ∀ h', (∀ b o, b ∉ [z, TO, i1, i2] → s.heap.get? b = some o → h'.get? b = some o) → Q none { s with heap := h' }) : wpAny (model prog w) A (pyNext (.ref z)) Q E s := by
  obtain ⟨hTI, hs, hz⟩ := hst
  rcases hz with ⟨hz, a, b, hTO⟩ | ⟨T, f, oT, hz, hT, r1, r2, r3, r4⟩
  · rcases hs with ⟨h1, h2, hl1, hl2⟩ | ⟨h1, h2, hl1, hl2⟩
    · exact wpAny_pyNext_zip_end hh D hz hTI hTO h1 h2 hl1 hl2 hend fun h' hk => hQ h' fun c o hc e => hk c o (fun x => hc (by simp [x])) (fun x => hc (by simp [x])) (fun x => hc (by simp [x])) (fun x => hc (by simp [x])) e
    · exact RZ.pyNext_zipT_end hh D hz hTI hTO h1 h2 hl1 hl2 hend fun h' hk => hQ h' fun c o hc e => hk c o (fun x => hc (by simp [x])) (fun x => hc (by simp [x])) (fun x => hc (by simp [x])) (fun x => hc (by simp [x])) e
  · rcases hs with ⟨h1, h2, hl1, hl2⟩ | ⟨h1, h2, hl1, hl2⟩
    · exact wpAny_pyNext_zip_end_held hh D hz hT hTI h1 h2 hl1 hl2 hend fun h' hk => hQ h' fun c o hc e => hk c o (fun x => hc (by simp [x])) (fun x => hc (by simp [x])) (fun x => hc (by simp [x])) e
    · exact pyNext_zipT_end_held hh D hz hT hTI h1 h2 hl1 hl2 hend fun h' hk => hQ h' fun c o hc e => hk c o (fun x => hc (by simp [x])) (fun x => hc (by simp [x])) (fun x => hc (by simp [x])) e
end
/-- the pairs of xs and ys stand at as, above lo, rising -/
structure ZG (xs ys : Array Value) (lo : Addr) (h : Heap) (as : List Addr) : Prop where
  rise : as.Pairwise (· < ·)
  above : ∀ a ∈ as, lo < a
  pairs : ∀ (j : Nat) (a : Addr), as[j]? = some a → ∃ x y, xs[j]? = some x ∧ ys[j]? = some y ∧ h.get? a = some { cls := .type "tuple", data := .seq #[x, y] }
theorem ZG.there {xs ys : Array Value} {lo : Addr} {h : Heap} {as : List Addr} (g : ZG xs ys lo h as) {a : Addr} (ha : a ∈ as) : a < h.objs.size := by
  obtain ⟨j, hj⟩ := List.mem_iff_getElem?.mp ha
  obtain ⟨_, _, _, _, e⟩ := g.pairs j a hj
  exact Heap.lt_size e
section
variable {prog : Program} {w : World} {A : Around} {s : Shared} {R : Result → Shared → Prop} {xs ys : Array Value} {z TI TO i1 i2 l1 l2 S : Addr}
theorem zil_loop (hh : A.handled = none) (D : ZipApart z TI TO i1 i2 l1 l2) (hSd : S ∉ [z, TI, TO, i1, i2, l1, l2]) (hlo : ∀ b ∈ [z, TO, i1, i2], b < S) (hn : xs.size ≤ sizeLine) (hxy : xs.size = ys.size) (res : Value) {h₁ : Heap}
    (hR : ∀ h' tk acc c as, (∀ b o, b ≠ S → b ∉ [z, TO, i1, i2] → h₁.get? b = some o → h'.get? b = some o) → h'.get? S = some { cls := .type "list", dict := none, data := .seq acc c, slots := #[] } → as.length = xs.size → ZG xs ys S h' as →
      acc.toList = as.map Value.ref → R (.ok (.ret res)) { s with heap := h', toks := tk }) :
    ∀ (k i : Nat) (h : Heap) (tk c : Nat) (acc : Array Value) (as : List Addr), xs.size - i = k → i ≤ xs.size → ZSt z TI TO i1 i2 l1 l2 S xs ys i h → (∀ b o, b ≠ S → b ∉ [z, TO, i1, i2] → h₁.get? b = some o → h.get? b = some o) →
      h.get? S = some { cls := .type "list", dict := none, data := .seq acc c, slots := #[] } → acc.toList = as.map Value.ref → as.length = i → ZG xs ys S h as →
      codeAny (model prog w) A (.builtin "list.extend.loop" ⟨[.ref S, .ref z, res], []⟩) R { s with heap := h, toks := tk } := by
  have hSw : S ∉ [z, TO, i1, i2] := fun q => hSd (by simp at q ⊢; rcases q with q | q | q | q <;> simp [q])
  intro k
  induction k with
  | zero =>
    intro i h tk c acc as hk hi hst hkeep hS hacc hal hG
    have hin : i = xs.size := by omega
    refine codeAny_builtin PySem.F.entry_extend_loop ?_
    rw [Around.under_plainId PySem.F.plain_extend_loop _]
    show wpAny _ A.in1 (pyNext (.ref z) >>= _) _ _ _
    refine wpAny_bind (zst_done (s := { s with heap := h, toks := tk }) (A := A.in1) hh D hst (.inl (Array.getElem?_eq_none (by omega))) fun h' he => ?_)
    refine wpAny_pure (hR h' tk acc c as (fun b o h1 h2 e => he b o h2 (hkeep b o h1 h2 e)) (he S _ hSw hS) (by omega) ⟨hG.rise, hG.above, fun j a hj => ?_⟩ hacc)
    obtain ⟨x, y, e1, e2, e3⟩ := hG.pairs j a hj
    have hab := hG.above a (List.mem_of_getElem? hj)
    exact ⟨x, y, e1, e2, he a _ (fun q => absurd (hlo a q) (Nat.not_lt.mpr (Nat.le_of_lt hab))) e3⟩
  | succ k ih =>
    intro i h tk c acc as hk hi hst hkeep hS hacc hal hG
    have hlt : i < xs.size := by omega
    have hlt2 : i < ys.size := by omega
    have hsz : acc.size = i := by rw [← Array.length_toList, hacc, List.length_map, hal]
    refine codeAny_builtin PySem.F.entry_extend_loop ?_
    rw [Around.under_plainId PySem.F.plain_extend_loop _]
    show wpAny _ A.in1 (pyNext (.ref z) >>= _) _ _ _
    have ex := Array.getElem?_eq_getElem hlt
    have ey := Array.getElem?_eq_getElem hlt2
    generalize xs[i] = x at ex
    generalize ys[i] = y at ey
    refine wpAny_bind (zst_item (s := { s with heap := h, toks := tk }) D hst (Heap.lt_size hS) ex ey fun h' hst' ht hz hkp => ?_)
    dsimp only at ht hz hkp ⊢
    have hS' := hkp S _ hSw hS
    have up : ∀ b o, b ≠ S → h'.get? b = some o → (h'.update S (Obj.mapSeq (·.push (Value.ref h.objs.size)))).get? b = some o := fun b o hb e => (Heap.get?_update_other _ _ (Ne.symm hb)).trans e
    have hSl : S < h.objs.size := Heap.lt_size hS
    show wpAny _ A.in1 (updateSeq S (·.push (Value.ref h.objs.size)) >>= _) _ _ _
    refine wpAny_bind ?_
    refine wpAny_updateSeq hS' rfl (wpAny_pure ⟨plainId_quiet PySem.F.plain_extend_loop _, ih (i + 1) _ tk _ (acc.push (Value.ref h.objs.size)) (as ++ [h.objs.size]) (by omega) hlt (hst'.keep hSd up)
      (fun b o h1 h2 e => up b o h1 (hkp b o h2 (hkeep b o h1 h2 e))) (Heap.get?_update_self _ hS' rfl) (by rw [Array.toList_push, hacc, List.map_append]; rfl) (by rw [List.length_append, hal]; rfl) ⟨?_, ?_, ?_⟩⟩) (by rw [hsz]; omega) (by show (acc.push (Value.ref h.objs.size)).size ≤ sizeLine + 1; rw [Array.size_push, hsz]; omega)
    · refine List.pairwise_append.mpr ⟨hG.rise, List.pairwise_singleton _ _, fun a ha b hb => ?_⟩
      rw [List.mem_singleton.mp hb]
      exact hG.there ha
    · intro a ha
      rcases List.mem_append.mp ha with ha | ha
      · exact hG.above a ha
      · rw [List.mem_singleton.mp ha]; exact hSl
    · intro j b hj
      rcases Nat.lt_trichotomy j as.length with h1 | h1 | h1
      · rw [List.getElem?_append_left h1] at hj
        obtain ⟨x', y', e1, e2, e3⟩ := hG.pairs j b hj
        have hb := hG.above b (List.mem_of_getElem? hj)
        exact ⟨x', y', e1, e2, up b _ (Nat.ne_of_gt hb) (hkp b _ (fun q => absurd (hlo b q) (Nat.not_lt.mpr (Nat.le_of_lt hb))) e3)⟩
      · subst h1
        have hb : h.objs.size = b := by simpa using hj
        subst hb
        exact ⟨x, y, by rw [hal]; exact ex, by rw [hal]; exact ey, up _ _ (Nat.ne_of_gt hSl) ht⟩
      · have hnone : (as ++ [h.objs.size])[j]? = none := List.getElem?_eq_none (by rw [List.length_append, List.length_singleton]; omega)
        rw [hnone] at hj; cases hj
end
theorem zip_no_len : typeLookup (.type "zip") "__len__" = pure none := am_miss_of_fast (by decide +kernel)
theorem zip_no_hint : typeLookup (.type "zip") "__length_hint__" = pure none := am_miss_of_fast (by decide +kernel)
section
variable {prog : Program} {w : World} {A : Around} {E : Value → Shared → Prop} {s : Shared} {xs ys : Array Value} {z TI TO i1 i2 l1 l2 : Addr}
theorem zip_hint {r : Addr} (hT : s.TypeIs (.ref r) "zip") {Q : Bool → Shared → Prop} (h : Q true s) : wpAny (model prog w) A (Builtin.List.listLengthHint (.ref r)) Q E s := by
  unfold Builtin.List.listLengthHint
  refine wpAny_bind (wpAny_specialOf hT zip_no_len ?_)
  refine wpAny_bind (wpAny_specialOf hT zip_no_hint ?_)
  exact wpAny_pure h
theorem zst_type {S : Addr} {k : Nat} {h : Heap} (x : ZSt z TI TO i1 i2 l1 l2 S xs ys k h) : ∃ o, h.get? z = some o ∧ o.cls = .type "zip" := by
  rcases x.2.2 with ⟨hz, _⟩ | ⟨T, f, oT, hz, _⟩
  · exact ⟨_, hz, rfl⟩
  · exact ⟨_, hz, rfl⟩
theorem zil_extend {R : Result → Shared → Prop} {S : Addr} {f0 : Value} (hh : A.handled = none) (D : ZipApart z TI TO i1 i2 l1 l2) (hSd : S ∉ [z, TI, TO, i1, i2, l1, l2]) (hlo : ∀ b ∈ [z, TO, i1, i2], b < S) (hn : xs.size ≤ sizeLine) (hxy : xs.size = ys.size)
    (hz : IsZip s.heap z TI TO f0) (hst : ZSt z TI TO i1 i2 l1 l2 S xs ys 0 s.heap) (res : Value) (c₀ : Nat) (hS : s.heap.get? S = some { cls := .type "list", data := .seq #[] c₀ })
    (hR : ∀ h' tk acc c as, (∀ b o, b ≠ S → b ∉ [z, TO, i1, i2] → s.heap.get? b = some o → h'.get? b = some o) → h'.get? S = some { cls := .type "list", dict := none, data := .seq acc c, slots := #[] } → as.length = xs.size → ZG xs ys S h' as →
      acc.toList = as.map Value.ref → R (.ok (.ret res)) { s with heap := h', toks := tk }) :
    wpAny (model prog w) A.in1 (Builtin.List.listExtendWith (.ref S) (.ref z) res)
      (fun fin s' => match fin with | .done f => R (.ok f) s' | .again c' => c'.quiet = true ∧ codeAny (model prog w) A c' R s') (fun e s' => R (.error e) s') s := by
  have key : ∀ (h : Heap) (c₁ tk : Nat), (∀ b o, b ≠ S → s.heap.get? b = some o → h.get? b = some o) →
      h.get? S = some { cls := .type "list", data := .seq #[] c₁ } → codeAny (model prog w) A (.builtin "list.extend.loop" ⟨[.ref S, .ref z, res], []⟩) R { s with heap := h, toks := tk } := by
    intro h c₁ tk hk hS₁
    exact zil_loop (s := s) (h₁ := s.heap) hh D hSd hlo hn hxy res hR xs.size 0 h tk c₁ #[] [] (Nat.sub_zero _) (Nat.zero_le _) (hst.keep hSd hk) (fun b o hb _ e => hk b o hb e) hS₁ rfl rfl
      ⟨List.Pairwise.nil, (fun _ ha => nomatch ha), (fun j a hj => by simp at hj)⟩
  have hT : s.TypeIs (.ref z) "zip" := ⟨_, hz, rfl⟩
  have hSr : S ≠ z := fun q => hSd (by simp [q])
  unfold Builtin.List.listExtendWith
  refine wpAny_bind (wpAny_typeOf (T := "zip") hT ?_)
  have h1 : Builtin.List.listSameRef (.ref S) (.ref z) = false := by simp [Builtin.List.listSameRef, hSr]
  have h2 : (Value.type "zip" == Value.type "list") = false := by decide
  have h3 : (Value.type "zip" == Value.type "tuple") = false := by decide
  simp only [h1, h2, h3, Bool.or_false, Bool.false_eq_true, if_false]
  refine wpAny_bind (wpAny_pyIter_zip hz ?_)
  refine wpAny_bind (wpAny_holding (zip_hint hT ?_))
  refine wpAny_ite_split (fun _ => ?_) (fun _ => wpAny_pure ⟨plainId_quiet PySem.F.plain_extend_loop _, key _ c₀ _ (fun b o _ e => e) hS⟩)
  refine wpAny_bind (wpAny_rule ?_)
  refine wpAny_bind ?_
  show wpAny _ _ (updateSeq S (·.push .none) >>= fun _ => updateSeq S (·.pop)) _ _ _
  refine wpAny_bind (wpAny_updateSeq hS rfl ?_)
  have hS₂ := Heap.get?_update_self (Obj.mapSeq (·.push Value.none)) hS rfl
  refine wpAny_updateSeq (hz := by seq_fits) hS₂ rfl ?_
  have hS₃ := Heap.get?_update_self (Obj.mapSeq (·.pop)) hS₂ rfl
  refine wpAny_pure ⟨plainId_quiet PySem.F.plain_extend_loop _, key _ _ _ (fun b o hb e => ?_) hS₃⟩
  exact (Heap.get?_update_other _ _ (Ne.symm hb)).trans ((Heap.get?_update_other _ _ (Ne.symm hb)).trans e)
theorem zil_init {R : Result → Shared → Prop} {S : Addr} {f0 : Value} (hh : A.handled = none) (D : ZipApart z TI TO i1 i2 l1 l2) (hSd : S ∉ [z, TI, TO, i1, i2, l1, l2]) (hlo : ∀ b ∈ [z, TO, i1, i2], b < S) (hn : xs.size ≤ sizeLine) (hxy : xs.size = ys.size)
    (hz : IsZip s.heap z TI TO f0) (hst : ZSt z TI TO i1 i2 l1 l2 S xs ys 0 s.heap) (hS : s.heap.get? S = some { cls := .type "list", data := .seq #[] })
    (hR : ∀ h' tk acc c as, (∀ b o, b ≠ S → b ∉ [z, TO, i1, i2] → s.heap.get? b = some o → h'.get? b = some o) → h'.get? S = some { cls := .type "list", dict := none, data := .seq acc c, slots := #[] } → as.length = xs.size → ZG xs ys S h' as →
      acc.toList = as.map Value.ref → R (.ok (.ret .none)) { s with heap := h', toks := tk }) :
    wpAny (model prog w) A.in1 (Builtin.«list.__init__» ⟨[.ref S, .ref z], []⟩)
      (fun fin s' => match fin with | .done f => R (.ok f) s' | .again c' => c'.quiet = true ∧ codeAny (model prog w) A c' R s') (fun e s' => R (.error e) s') s := by
  show wpAny _ _ (do let old ← Builtin.List.listItems (.ref S); Builtin.List.listUpdate (.ref S) (fun _ => #[]); letGo old.toList.reverse; Builtin.List.listExtendWith (.ref S) (.ref z) .none) _ _ s
  refine wpAny_bind ?_
  unfold Builtin.List.listItems
  refine wpAny_bind (wpAny_seqItems hS rfl (wpAny_pure ?_))
  show wpAny _ _ (updateSeq S (fun _ => #[]) >>= fun _ => letGo (#[] : Array Value).toList.reverse >>= fun _ => Builtin.List.listExtendWith (.ref S) (.ref z) .none) _ _ s
  refine wpAny_bind (wpAny_updateSeq hS rfl ?_)
  have hS₂ := Heap.get?_update_self (Obj.mapSeq (fun _ => (#[] : Array Value))) hS rfl
  have oth : ∀ b o, b ≠ S → s.heap.get? b = some o → (s.heap.update S (Obj.mapSeq (fun _ => (#[] : Array Value)))).get? b = some o :=
    fun b o hb e => (Heap.get?_update_other _ _ (Ne.symm hb)).trans e
  have hzS : z ≠ S := fun q => hSd (by simp [q])
  refine wpAny_bind (wpAny_letGo ?_)
  refine zil_extend (s := { s with heap := s.heap.update S (Obj.mapSeq (fun _ => (#[] : Array Value))) }) hh D hSd hlo hn hxy (oth _ _ hzS hz) (hst.keep hSd oth) .none _ hS₂ (fun h' tk acc c as hk hS' hl hG hacc => ?_)
  exact hR h' tk acc c as (fun b o hb hw e => hk b o hb hw (oth b o hb e)) hS' hl hG hacc
theorem zil_call {Q : Value → Shared → Prop} {f0 : Value} (hh : A.handled = none) (D : ZipApart z TI TO i1 i2 l1 l2) (hlt : ∀ b ∈ [z, TI, TO, i1, i2, l1, l2], b < s.heap.objs.size) (hn : xs.size ≤ sizeLine) (hxy : xs.size = ys.size)
    (hz : IsZip s.heap z TI TO f0) (hst : ∀ S, S = s.heap.objs.size → ZSt z TI TO i1 i2 l1 l2 S xs ys 0 s.heap)
    (hQ : ∀ h' tk acc c as, (∀ b o, b ∉ [z, TO, i1, i2] → s.heap.get? b = some o → h'.get? b = some o) → h'.get? s.heap.objs.size = some { cls := .type "list", dict := none, data := .seq acc c, slots := #[] } → as.length = xs.size → ZG xs ys s.heap.objs.size h' as →
      acc.toList = as.map Value.ref → Q (.ref s.heap.objs.size) { s with heap := h', toks := tk }) :
    wpAny (model prog w) A (call (.type "list") [.ref z]) Q E s := by
  refine callType_codes (Q₁ := fun obj s₁ => obj = .ref s.heap.objs.size ∧ s₁ = { s with heap := s.heap.push { cls := .type "list", data := .seq #[] } }) PySem.F.called_list (PySem.F.typeCall_list_1 _) PySem.F.entry_list_init
    (code_list_new _ ⟨rfl, rfl⟩) fun obj s₁ h₁ => ?_
  obtain ⟨rfl, rfl⟩ := h₁
  have hS : (s.heap.push { cls := .type "list", data := .seq #[] }).get? s.heap.objs.size = some { cls := .type "list", data := .seq #[] } := Heap.get?_push_size _ rfl
  have hSd : s.heap.objs.size ∉ [z, TI, TO, i1, i2, l1, l2] := fun q => Nat.lt_irrefl _ (hlt _ q)
  have hlo : ∀ b ∈ [z, TO, i1, i2], b < s.heap.objs.size := fun b hb => hlt b (by simp at hb ⊢; rcases hb with q | q | q | q <;> simp [q])
  refine ⟨⟨_, hS, rfl⟩, PySem.F.args_list_init_2 _ _, zil_init (A := A.in1) (s := { s with heap := s.heap.push { cls := .type "list", data := .seq #[] } }) hh D hSd hlo hn hxy (Heap.get?_push_of_some _ hz) ((hst _ rfl).keep hSd fun b o _ e => Heap.get?_push_of_some _ e) hS (fun h' tk acc c as hk hS' hl hG hacc => ?_)⟩
  exact ⟨rfl, hQ h' tk acc c as (fun b o hw e => hk b o (Nat.ne_of_lt (Heap.lt_size e)) hw (Heap.get?_push_of_some _ e)) hS' hl hG hacc⟩
end
/-! ### the rule -/
/-- the pairs tracked at their addresses -/
def putP : Hp → List Addr → List (V × V) → Hp
  | H, a :: as, p :: ps => putP (upd H a (.tup [p.1, p.2])) as ps
  | H, _, _ => H
theorem putP_off {b : Addr} : ∀ (as : List Addr) (ps : List (V × V)) (H : Hp), b ∉ as → putP H as ps b = H b
  | [], _, _, _ => rfl
  | _ :: _, [], _, _ => rfl
  | a :: as, p :: ps, H, h => by
    show putP (upd H a (.tup [p.1, p.2])) as ps b = H b
    rw [putP_off as ps _ (fun z => h (List.mem_cons_of_mem _ z)), upd_ne (fun z => h (by rw [z]; exact List.mem_cons_self))]
theorem putP_at : ∀ (as : List Addr) (ps : List (V × V)) (H : Hp), as.length = ps.length → as.Nodup → Paired (fun (t : Addr) (p : V × V) => putP H as ps t = some (.tup [p.1, p.2])) as ps
  | [], [], _, _, _ => .nil
  | [], _ :: _, _, h, _ => by cases h
  | _ :: _, [], _, h, _ => by cases h
  | a :: as, p :: ps, H, h, hn => by
    have hn' := List.nodup_cons.mp hn
    have ih := putP_at as ps (upd H a (.tup [p.1, p.2])) (Nat.succ.inj h) hn'.2
    refine .cons ?_ ih
    show putP (upd H a (.tup [p.1, p.2])) as ps a = some (.tup [p.1, p.2])
    rw [putP_off as ps _ hn'.1, upd_same]
section
variable {X : Cx}
theorem pairs_laid {pins : List (Addr × Obj)} {σ : L2.St} {H : Hp} {s : Shared} {h' : Heap} {tk : Nat} {xv yv : List V} {xs ys : List Value} {acc : Array Value} {c : Nat} {as : List Addr} {S : Addr} (I : Inv X pins σ H s) (hz : xs.length ≤ sizeLine) (hx : Vals xv xs) (hy : Vals yv ys) (hxy : xs.length = ys.length)
    (hS0 : s.heap.objs.size ≤ S) (hk : ∀ b o, s.heap.get? b = some o → h'.get? b = some o) (hS : h'.get? S = some { cls := .type "list", dict := none, data := .seq acc c, slots := #[] }) (hl : as.length = xs.length) (hG : ZG xs.toArray ys.toArray S h' as) (hacc : acc.toList = as.map Value.ref) :
    ∃ H' : Hp, Same H H' ∧ H S = none ∧ (∀ t ∈ as, H t = none) ∧ S ∉ as ∧ H' S = some (.lst (as.map V.ref)) ∧ Paired (fun (t : Addr) (q : V × V) => H' t = some (.tup [q.1, q.2])) as (xv.zip yv) ∧ Inv X pins σ H' { s with heap := h', toks := tk } := by
  have lx := hx.length
  have ly := hy.length
  have lz : as.length = (xv.zip yv).length := by rw [List.length_zip]; omega
  have hSn : S ∉ as := fun z => Nat.lt_irrefl _ (hG.above _ z)
  have nd : as.Nodup := List.Pairwise.imp (fun {a b} (h : a < b) => Nat.ne_of_lt h) hG.rise
  have new : ∀ t ∈ as, H t = none := fun t ht => I.hok.fresh (Nat.le_trans hS0 (Nat.le_of_lt (hG.above t ht)))
  have newS : H S = none := I.hok.fresh hS0
  have atP := putP_at as (xv.zip yv) (upd H S (.lst (as.map V.ref))) lz nd
  have off : ∀ b, b ∉ as → b ≠ S → putP (upd H S (.lst (as.map V.ref))) as (xv.zip yv) b = H b := fun b h1 h2 => by rw [putP_off as _ _ h1, upd_ne h2]
  have low : ∀ b o, s.heap.get? b = some o → b ∉ as ∧ b ≠ S := fun b o e => ⟨fun z => absurd (Heap.lt_size e) (Nat.not_lt.mpr (Nat.le_trans hS0 (Nat.le_of_lt (hG.above b z)))), Nat.ne_of_lt (Nat.lt_of_lt_of_le (Heap.lt_size e) hS0)⟩
  have kp : ∀ b u, H b = some u → (putP (upd H S (.lst (as.map V.ref))) as (xv.zip yv)) b = some u := fun b u e => by
    rw [off b (fun z => by rw [new b z] at e; cases e) (fun z => by rw [z, newS] at e; cases e)]
    exact e
  have eS : putP (upd H S (.lst (as.map V.ref))) as (xv.zip yv) S = some (.lst (as.map V.ref)) := by rw [putP_off as _ _ hSn, upd_same]
  refine ⟨putP (upd H S (.lst (as.map V.ref))) as (xv.zip yv), kp, newS, new, hSn, eS, atP, ?_⟩
  refine I.call' (ch := []) rfl ⟨fun b o q _ _ _ => hk b o q, fun b o q _ _ _ => ⟨o.slots, hk b o q⟩, fun b o q n _ => ?_, fun b o q _ => ⟨o, hk b o q⟩, fun b xs q => kp b _ q, fun b o u q => kp b _ q, fun b ps q => ⟨#[], by rw [kp b _ q]; simp⟩⟩ (fun b u q => ?_) I.bare fun b z => by simp at z
  · obtain ⟨z1, z2⟩ := low b o q
    rw [off b z1 z2]
    exact n
  · by_cases hb : b ∈ as
    · obtain ⟨j, pk, e1, e2, e3⟩ := LiI.paired_ix atP hb
      rw [e3] at q
      cases q
      obtain ⟨x, y, f1, f2, f3⟩ := hG.pairs j b e1
      obtain ⟨g1, g2⟩ := List.getElem?_zip_eq_some.mp e2
      obtain ⟨u1, g3, g4⟩ := hx.get g1
      obtain ⟨u2, g5, g6⟩ := hy.get g2
      have f1 : xs[j]? = some x := by simpa using f1
      have f2 : ys[j]? = some y := by simpa using f2
      rw [f1] at g3; cases g3
      rw [f2] at g5; cases g5
      exact ⟨by show 2 ≤ sizeLine; decide, [x, y], .cons g4 (.cons g6 .nil), ⟨_, f3, rfl, _, rfl⟩⟩
    · by_cases hb2 : b = S
      · rw [hb2] at q ⊢
        rw [eS] at q
        cases q
        refine ⟨by rw [List.length_map]; omega, acc.toList, c, by rw [hacc]; exact LiI.vals_refs as, ?_⟩
        rw [Array.toArray_toList]
        exact hS
      · rw [off b hb hb2] at q
        exact (I.hok b u q).stay (fun d v _ y => hk d v y) (fun d y => kp d _ y) fun d xs y => kp d _ y
theorem lt_of7 {n c a b : Nat} (la : a < n) (lb : b < n) (e : c = n + 4 ∨ c = n + 2 ∨ c = n + 3 ∨ c = n ∨ c = n + 1 ∨ c = a ∨ c = b) : c < n + 5 := by omega
theorem ge_of4 {n c : Nat} (e : c = n + 4 ∨ c = n + 3 ∨ c = n ∨ c = n + 1) : ¬ c < n := by omega
def rLZip (K : PySem.W.Frag) : List V → Hp → VK → Prop := fun vs H Q => ∃ (a b : Addr) (xs ys : List V), vs = [.ref a, .ref b] ∧ ((SqL K H a xs ∧ SqL K H b ys) ∨ (SqT K H a xs ∧ SqT K H b ys)) ∧ xs.length = ys.length ∧
  ∀ (H' : Hp) (p : Addr) (ts : List Addr), Same H H' → H p = none → (∀ t ∈ ts, H t = none) → H' p = some (.lst (ts.map V.ref)) → Paired (fun (t : Addr) (q : V × V) => H' t = some (.tup [q.1, q.2])) ts (xs.zip ys) → Q (.ref p) H'
def tLZip (K : PySem.W.Frag) (ta : TA) : TE := fun σ H Q => ta σ H fun vs H1 => rLZip K vs H1 Q
theorem pe_listZip {e e2 : Expr} {ta : TA} {p p2 pos2 pos : Pos} (hc : X.calm = true) (hg : Gl X "list") (hm : X.mg "list" = none) (hv : bootBuiltins "list" = some (.type "list")) (hgz : Gl X "zip") (hmz : X.mg "zip" = none) (ha : PA X [e, e2] ta)
    (hs : starEach [.Call (.Name "zip" p2) [e, e2] [] pos2] X.env = (false, eval (.Call (.Name "zip" p2) [e, e2] [] pos2) X.env) :: starEach [] X.env := by rfl)
    (hz : starEach [e, e2] X.env = (false, eval e X.env) :: starEach [e2] X.env := by rfl) (hpl : (backTo pos2 (starEach [e2] X.env)).any (·.1) = false := by rfl) :
    PE X (.Call (.Name "list" p) [.Call (.Name "zip" p2) [e, e2] [] pos2] [] pos) (tLZip X.K ta) := by
  refine ⟨fun pins s σ H Q I hq => ?_⟩
  refine wpAny_Call_Name_kw (ld_blt I hg hm hv ?_)
  refine PyProof.Rows.callWith_type1 ?_ hs rfl
  rw [hs]
  show wpAny _ _ (spliced ((false, eval (.Call (.Name "zip" p2) [e, e2] [] pos2) X.env) :: backTo pos (starEach [] X.env))) _ _ s
  refine Calls.spliced_cons ?_
  refine Call_ (ld_blt I hgz hmz PyProof.Rows.boot_zip (PyProof.Rows.callWith_type1 (thn (ha.run pos2 pins s σ H _ I hq) fun us s1 ⟨vs, H1, I1, r1, q1⟩ => ?_) hz hpl))
  obtain ⟨a, b, xs, ys, ex, hab, hxy, q⟩ := q1
  subst ex
  cases r1 with
  | cons r rr =>
    cases rr with
    | cons r' rr =>
      cases rr
      cases r
      cases r'
      have fin : ∀ (h' : Heap) (its its2 : List Value), Vals xs its → Vals ys its2 → its.length ≤ sizeLine → a < s1.heap.objs.size → b < s1.heap.objs.size → IsZip h' (s1.heap.objs.size + 4) (s1.heap.objs.size + 2) (s1.heap.objs.size + 3) .none → IsPair h' (s1.heap.objs.size + 2) (.ref s1.heap.objs.size) (.ref (s1.heap.objs.size + 1)) →
          IsPair h' (s1.heap.objs.size + 3) .none .none → SeqsAt h' s1.heap.objs.size (s1.heap.objs.size + 1) a b its.toArray its2.toArray 0 → h'.objs.size = s1.heap.objs.size + 5 →
          (∀ c o, s1.heap.get? c = some o → h'.get? c = some o) → wpAny (model X.prog X.w) X.A (call (.type "list") [.ref (s1.heap.objs.size + 4)]) (EP X pins σ Q) X.xe { s1 with heap := h' } := by
        intro h' its its2 rv rv2 hzl la lb hz0 hTI hTO hsq hsz hk
        have l1 := rv.length
        have l2 := rv2.length
        refine zil_call (s := { s1 with heap := h' }) (xs := its.toArray) (ys := its2.toArray) (I1.ok.hd hc) (PySem.W.ktu_apart s1.heap.objs.size a b la lb) (fun c hcm => ?_) (by simpa using hzl) (by simp; omega) hz0 (fun S _ => ⟨hTI, hsq, .inl ⟨hz0, _, _, hTO⟩⟩) fun h'' tk acc c as hk2 hS hl hG hacc => ?_
        · have hle : c < s1.heap.objs.size + 5 := by
            have e' : c = s1.heap.objs.size + 4 ∨ c = s1.heap.objs.size + 2 ∨ c = s1.heap.objs.size + 3 ∨ c = s1.heap.objs.size ∨ c = s1.heap.objs.size + 1 ∨ c = a ∨ c = b := by simpa using hcm
            exact lt_of7 la lb e'
          show c < h'.objs.size
          rw [hsz]; exact hle
        · have kp : ∀ c o, s1.heap.get? c = some o → h''.get? c = some o := fun c o e => hk2 c o (fun z => by
            have e' : c = s1.heap.objs.size + 4 ∨ c = s1.heap.objs.size + 3 ∨ c = s1.heap.objs.size ∨ c = s1.heap.objs.size + 1 := by simpa using z
            exact absurd (Heap.lt_size e) (ge_of4 e')) (hk c o e)
          obtain ⟨H', k1, k2, k3, k4, k5, k6, J⟩ := pairs_laid (tk := tk) (S := h'.objs.size) I1 hzl rv rv2 (by omega) (by rw [hsz]; exact Nat.le_add_right _ _) kp hS (by simpa using hl) hG hacc
          exact ⟨.ref _, H', J, rfl, q H' _ as k1 k2 k3 k5 k6⟩
      rcases hab with ⟨hqx, hqy⟩ | ⟨hqx, hqy⟩
      · obtain ⟨its, rv, p1, hzl⟩ := I1.list hqx
        obtain ⟨its2, rv2, p2, _⟩ := I1.list hqy
        refine call_zip_2 p1.isList p2.isList fun h' hz hTI hTO h1 h2 hsz hk => ?_
        refine Calls.spliced_nil ?_
        refine fin h' its its2 rv rv2 (by rw [← rv.length]; exact hzl) p1.lt p2.lt hz hTI hTO (.inl ⟨h1, h2, p1.isList.at fun o e => hk _ o e, p2.isList.at fun o e => hk _ o e⟩) hsz hk
      · obtain ⟨its, rv, p1, hzl⟩ := I1.tuple hqx
        obtain ⟨its2, rv2, p2, _⟩ := I1.tuple hqy
        obtain ⟨o1, ho1, _⟩ := id p1
        obtain ⟨o2, ho2, _⟩ := id p2
        have q1 : s1.heap.IsTuple a its.toArray := p1
        have q2 : s1.heap.IsTuple b its2.toArray := p2
        refine RZ.call_zipT q1 q2 fun h' hz hTI hTO h1 h2 hsz hk => ?_
        refine Calls.spliced_nil ?_
        refine fin h' its its2 rv rv2 (by rw [← rv.length]; exact hzl) (Heap.lt_size ho1) (Heap.lt_size ho2) hz hTI hTO (.inr ⟨h1, h2, q1.at fun o e => hk _ o e, q2.at fun o e => hk _ o e⟩) hsz hk
end
end J

/-! ### matching -/
namespace J
open PySem L2
open Classical in
mutual
/-- the match of a pattern with a term, behind the table tb -/
noncomputable def mtc : Tm → Tm → List (Int × Tm) → Option (List (Int × Tm))
  | .var n, t, tb => match look tb n with
    | none => some (tb ++ [(n, t)])
    | some u => if u = t then some tb else none
  | .app _ _, .var _, _ => none
  | .app f ps, .app g ts, tb => if f = g ∧ ps.length = ts.length then mtcs ps ts tb else none
noncomputable def mtcs : List Tm → List Tm → List (Int × Tm) → Option (List (Int × Tm))
  | [], _, tb => some tb
  | p :: ps, ts, tb => match ts with
    | [] => some tb
    | t :: ts => (mtc p t tb).bind (mtcs ps ts)
end
theorem mtcs_nil (ts : List Tm) (tb : List (Int × Tm)) : mtcs [] ts tb = some tb := by unfold mtcs; rfl
theorem mtcs_cons (p t : Tm) (ps ts : List Tm) (tb : List (Int × Tm)) : mtcs (p :: ps) (t :: ts) tb = (mtc p t tb).bind (mtcs ps ts) := by rw [mtcs]
theorem mtc_var (n : Int) (t : Tm) (tb : List (Int × Tm)) : (look tb n = none → mtc (.var n) t tb = some (tb ++ [(n, t)])) ∧ (∀ u, look tb n = some u → (u = t → mtc (.var n) t tb = some tb) ∧ (u ≠ t → mtc (.var n) t tb = none)) := by
  refine ⟨fun h => by unfold mtc; rw [h], fun u h => ⟨fun e => by unfold mtc; rw [h]; exact if_pos e, fun e => by unfold mtc; rw [h]; exact if_neg e⟩⟩
theorem mtc_av (f : Str) (ps : List Tm) (n : Int) (tb : List (Int × Tm)) : mtc (.app f ps) (.var n) tb = none := by unfold mtc; rfl
theorem mtc_aa {f g : Str} {ps ts : List Tm} (h : f = g ∧ ps.length = ts.length) (tb : List (Int × Tm)) : mtc (.app f ps) (.app g ts) tb = mtcs ps ts tb := by rw [mtc, if_pos h]
theorem mtc_aan {f g : Str} {ps ts : List Tm} (h : ¬ (f = g ∧ ps.length = ts.length)) (tb : List (Int × Tm)) : mtc (.app f ps) (.app g ts) tb = none := by rw [mtc, if_neg h]
theorem mtcs_app : ∀ (ps ts qs us : List Tm) (tb : List (Int × Tm)), ps.length = ts.length → mtcs (ps ++ qs) (ts ++ us) tb = (mtcs ps ts tb).bind (mtcs qs us)
  | [], [], qs, us, tb, _ => by rw [mtcs_nil]; rfl
  | [], _ :: _, _, _, _, h => nomatch h
  | _ :: _, [], _, _, _, h => nomatch h
  | p :: ps, t :: ts, qs, us, tb, h => by
    rw [List.cons_append, List.cons_append, mtcs_cons, mtcs_cons]
    cases mtc p t tb with
    | none => rfl
    | some tb' => exact mtcs_app ps ts qs us tb' (Nat.succ.inj h)
theorem mtcs_take (ps ts : List Tm) (tb : List (Int × Tm)) (i : Nat) (h : ps.length = ts.length) : mtcs ps ts tb = (mtcs (ps.take i) (ts.take i) tb).bind (mtcs (ps.drop i) (ts.drop i)) := by
  rw [← mtcs_app _ _ _ _ _ (by rw [List.length_take, List.length_take, h]), List.take_append_drop, List.take_append_drop]
theorem mtcs_succ (ps ts : List Tm) (tb tb' : List (Int × Tm)) (i : Nat) (p t : Tm) (h : ps.length = ts.length) (hp : ps[i]? = some p) (ht : ts[i]? = some t) (e : mtcs (ps.take i) (ts.take i) tb = some tb') : mtcs (ps.take (i + 1)) (ts.take (i + 1)) tb = mtc p t tb' := by
  rw [list_take_succ hp, list_take_succ ht, mtcs_app _ _ _ _ _ (by rw [List.length_take, List.length_take, h]), e]
  show mtcs [p] [t] tb' = _
  rw [mtcs_cons]
  cases mtc p t tb' with
  | none => rfl
  | some x => exact mtcs_nil [] x
/-- what is bound is among the terms -/
theorem mtc_len : ∀ (n : Nat) (p t : Tm) (tb tb' : List (Int × Tm)), p.sz ≤ n → mtc p t tb = some tb' → tb'.length ≤ tb.length + p.sz
  | 0, p, _, _, _, h, _ => by have := p.sz_pos; omega
  | n + 1, .var k, t, tb, tb', _, e => by
    obtain ⟨h1, h2⟩ := mtc_var k t tb
    cases hl : look tb k with
    | none => rw [h1 hl] at e; cases e; rw [List.length_append]; exact Nat.le_refl _
    | some u =>
      by_cases z : u = t
      · rw [(h2 u hl).1 z] at e; cases e; omega
      · rw [(h2 u hl).2 z] at e; cases e
  | n + 1, .app f ps, .var _, tb, tb', _, e => by rw [mtc_av] at e; cases e
  | n + 1, .app f ps, .app g ts, tb, tb', hn, e => by
    by_cases h : f = g ∧ ps.length = ts.length
    · rw [mtc_aa h] at e
      have hn : 1 + Tm.szs ps ≤ n + 1 := hn
      have key : ∀ (ps ts : List Tm) (tb tb' : List (Int × Tm)), Tm.szs ps ≤ n → mtcs ps ts tb = some tb' → tb'.length ≤ tb.length + Tm.szs ps := by
        intro ps
        induction ps with
        | nil => intro ts tb tb' _ e; rw [mtcs_nil] at e; cases e; exact Nat.le_refl _
        | cons p ps ih =>
          intro ts tb tb' hs e
          have hs : p.sz + Tm.szs ps ≤ n := hs
          cases ts with
          | nil =>
            have : mtcs (p :: ps) [] tb = some tb := by rw [mtcs]
            rw [this] at e; cases e; omega
          | cons t ts =>
            rw [mtcs_cons] at e
            cases h1 : mtc p t tb with
            | none => rw [h1] at e; cases e
            | some t1 =>
              rw [h1] at e
              have a := mtc_len n p t tb t1 (by omega) h1
              have b := ih ts t1 tb' (by omega) e
              show tb'.length ≤ tb.length + (p.sz + Tm.szs ps)
              omega
      have := key ps ts tb tb' (by omega) e
      show tb'.length ≤ tb.length + (1 + Tm.szs ps)
      omega
    · rw [mtc_aan h] at e; cases e
/-- what is bound is a part of the terms -/
theorem mtc_sz : ∀ (n : Nat) (p t : Tm) (tb tb' : List (Int × Tm)), p.sz ≤ n → mtc p t tb = some tb' → ∀ Z : Nat, t.sz ≤ Z → (∀ x ∈ tb, x.2.sz ≤ Z) → ∀ x ∈ tb', x.2.sz ≤ Z
  | 0, p, _, _, _, h, _ => by have := p.sz_pos; omega
  | n + 1, .var k, t, tb, tb', _, e => by
    intro Z hZ hb x hx
    obtain ⟨h1, h2⟩ := mtc_var k t tb
    cases hl : look tb k with
    | none =>
      rw [h1 hl] at e; cases e
      rcases List.mem_append.mp hx with z | z
      · exact hb x z
      · rw [List.mem_singleton.mp z]; exact hZ
    | some u =>
      by_cases z : u = t
      · rw [(h2 u hl).1 z] at e; cases e; exact hb x hx
      · rw [(h2 u hl).2 z] at e; cases e
  | n + 1, .app f ps, .var _, tb, tb', _, e => by rw [mtc_av] at e; cases e
  | n + 1, .app f ps, .app g ts, tb, tb', hn, e => by
    intro Z hZ hb
    by_cases h : f = g ∧ ps.length = ts.length
    · rw [mtc_aa h] at e
      have hn : 1 + Tm.szs ps ≤ n + 1 := hn
      have hZ : 1 + Tm.szs ts ≤ Z := hZ
      have key : ∀ (ps ts : List Tm) (tb tb' : List (Int × Tm)), Tm.szs ps ≤ n → Tm.szs ts ≤ Z → mtcs ps ts tb = some tb' → (∀ x ∈ tb, x.2.sz ≤ Z) → ∀ x ∈ tb', x.2.sz ≤ Z := by
        intro ps
        induction ps with
        | nil => intro ts tb tb' _ _ e hb; rw [mtcs_nil] at e; cases e; exact hb
        | cons p ps ih =>
          intro ts tb tb' hs ht e hb
          have hs : p.sz + Tm.szs ps ≤ n := hs
          cases ts with
          | nil =>
            have : mtcs (p :: ps) [] tb = some tb := by rw [mtcs]
            rw [this] at e; cases e; exact hb
          | cons t ts =>
            have ht : t.sz + Tm.szs ts ≤ Z := ht
            rw [mtcs_cons] at e
            cases h1 : mtc p t tb with
            | none => rw [h1] at e; cases e
            | some t1 =>
              rw [h1] at e
              exact ih ts t1 tb' (by omega) (by omega) e (mtc_sz n p t tb t1 (by omega) h1 Z (by omega) hb)
      exact key ps ts tb tb' (by omega) (by omega) e hb
    · rw [mtc_aan h] at e; cases e
theorem mtcs_sz : ∀ (ps ts : List Tm) (tb tb' : List (Int × Tm)) (Z : Nat), Tm.szs ts ≤ Z → mtcs ps ts tb = some tb' → (∀ x ∈ tb, x.2.sz ≤ Z) → ∀ x ∈ tb', x.2.sz ≤ Z
  | [], ts, tb, tb', Z, _, e, hb => by rw [mtcs_nil] at e; cases e; exact hb
  | p :: ps, [], tb, tb', Z, _, e, hb => by
    have : mtcs (p :: ps) [] tb = some tb := by rw [mtcs]
    rw [this] at e; cases e; exact hb
  | p :: ps, t :: ts, tb, tb', Z, hz, e, hb => by
    have hz : t.sz + Tm.szs ts ≤ Z := hz
    rw [mtcs_cons] at e
    cases h1 : mtc p t tb with
    | none => rw [h1] at e; cases e
    | some t1 =>
      rw [h1] at e
      exact mtcs_sz ps ts t1 tb' Z (by omega) e (mtc_sz p.sz p t tb t1 (Nat.le_refl _) h1 Z (by omega) hb)
theorem mtcs_len : ∀ (ps ts : List Tm) (tb tb' : List (Int × Tm)), mtcs ps ts tb = some tb' → tb'.length ≤ tb.length + Tm.szs ps
  | [], ts, tb, tb', e => by rw [mtcs_nil] at e; cases e; exact Nat.le_refl _
  | p :: ps, [], tb, tb', e => by
    have : mtcs (p :: ps) [] tb = some tb := by rw [mtcs]
    rw [this] at e; cases e; exact Nat.le_add_right _ _
  | p :: ps, t :: ts, tb, tb', e => by
    rw [mtcs_cons] at e
    cases h1 : mtc p t tb with
    | none => rw [h1] at e; cases e
    | some t1 =>
      rw [h1] at e
      have a := mtc_len p.sz p t tb t1 (Nat.le_refl _) h1
      have b := mtcs_len ps ts t1 tb' e
      show tb'.length ≤ tb.length + (p.sz + Tm.szs ps)
      omega
/-! pairs of terms that wait -/
def PrIn (H : Hp) : List V → List (Tm × Tm) → Prop
  | [], [] => True
  | w :: ws, x :: xs => (∃ (a : Addr) (u v : V), w = .ref a ∧ H a = some (.tup [u, v]) ∧ TmIn H x.1 u ∧ TmIn H x.2 v) ∧ PrIn H ws xs
  | _, _ => False
theorem PrIn.tu {H H' : Hp} (t : Tu H H') : ∀ {ws : List V} {xs : List (Tm × Tm)}, PrIn H ws xs → PrIn H' ws xs
  | [], [], _ => trivial
  | [], _ :: _, h => h.elim
  | _ :: _, [], h => h.elim
  | _ :: _, _ :: _, ⟨⟨a, u, v, e, h1, h2, h3⟩, h⟩ => ⟨⟨a, u, v, e, t _ _ h1, h2.tu t, h3.tu t⟩, PrIn.tu t h⟩
theorem PrIn.app {H : Hp} : ∀ {ws vs : List V} {xs ys : List (Tm × Tm)}, PrIn H ws xs → PrIn H vs ys → PrIn H (ws ++ vs) (xs ++ ys)
  | [], _, [], _, _, q => q
  | [], _, _ :: _, _, h, _ => h.elim
  | _ :: _, _, [], _, h, _ => h.elim
  | _ :: _, _, _ :: _, _, h, q => ⟨h.1, PrIn.app h.2 q⟩
theorem PrIn.length {H : Hp} : ∀ {ws : List V} {xs : List (Tm × Tm)}, PrIn H ws xs → ws.length = xs.length
  | [], [], _ => rfl
  | [], _ :: _, h => h.elim
  | _ :: _, [], h => h.elim
  | _ :: _, _ :: _, h => congrArg (· + 1) (PrIn.length h.2)
theorem PrIn.get {H : Hp} : ∀ {ws : List V} {xs : List (Tm × Tm)} {i : Nat} {w : V}, PrIn H ws xs → ws[i]? = some w → ∃ x a u v, xs[i]? = some x ∧ w = .ref a ∧ H a = some (.tup [u, v]) ∧ TmIn H x.1 u ∧ TmIn H x.2 v
  | [], _, i, _, _, e => by simp at e
  | _ :: _, [], _, _, h, _ => h.elim
  | y :: ws, x :: xs, 0, w, h, e => by
    obtain ⟨⟨a, u, v, h1, h2, h3, h4⟩, _⟩ := h
    have e : y = w := by simpa using e
    exact ⟨x, a, u, v, rfl, e ▸ h1, h2, h3, h4⟩
  | y :: ws, x :: xs, i + 1, w, h, e => by
    obtain ⟨x', a, u, v, h1, h2⟩ := PrIn.get h.2 (i := i) (w := w) (by simpa using e)
    exact ⟨x', a, u, v, by simpa using h1, h2⟩
theorem PrIn.snoc {H : Hp} {ws : List V} {xs : List (Tm × Tm)} (h : PrIn H ws xs) (hne : ws ≠ []) : ∃ ws' w xs' x, ws = ws' ++ [w] ∧ xs = xs' ++ [x] ∧ PrIn H ws' xs' ∧ PrIn H [w] [x] := by
  induction ws generalizing xs with
  | nil => exact absurd rfl hne
  | cons w ws ih =>
    cases xs with
    | nil => exact h.elim
    | cons x xs =>
      by_cases z : ws = []
      · subst z
        cases xs with
        | nil => exact ⟨[], w, [], x, rfl, rfl, trivial, h⟩
        | cons y ys => exact h.2.elim
      · obtain ⟨ws', w', xs', x', e1, e2, h1, h2⟩ := ih h.2 z
        exact ⟨w :: ws', w', x :: xs', x', by rw [e1]; rfl, by rw [e2]; rfl, ⟨h.1, h1⟩, h2⟩
/-- what list(zip(..)) made of two rows of terms -/
theorem PrIn.of_zip {H' : Hp} : ∀ {ts : List Addr} {us vs : List V} {ps qs : List Tm}, TmsIn H' ps us → TmsIn H' qs vs → ps.length = qs.length → Paired (fun (t : Addr) (q : V × V) => H' t = some (.tup [q.1, q.2])) ts (us.zip vs) → PrIn H' (ts.map V.ref) (ps.zip qs)
  | ts, us, vs, [], [], h1, h2, _, h => by
    cases (show us = [] from h1)
    cases (show vs = [] from h2)
    cases h
    exact trivial
  | _, _, _, [], _ :: _, _, _, h, _ => nomatch h
  | _, _, _, _ :: _, [], _, _, h, _ => nomatch h
  | ts, us, vs, p :: ps, q :: qs, ⟨u, us', e1, h1, h2⟩, ⟨v, vs', e2, h3, h4⟩, hl, h => by
    subst e1 e2
    rw [List.zip_cons_cons] at h
    cases h with
    | cons r t => exact ⟨⟨_, u, v, rfl, r, h1, h3⟩, PrIn.of_zip h2 h4 (Nat.succ.inj hl) t⟩
theorem zip_rev {α β : Type} : ∀ (xs : List α) (ys : List β), xs.length = ys.length → xs.reverse.zip ys.reverse = (xs.zip ys).reverse
  | [], [], _ => rfl
  | [], _ :: _, h => nomatch h
  | _ :: _, [], h => nomatch h
  | x :: xs, y :: ys, h => by
    have h := Nat.succ.inj h
    rw [List.reverse_cons, List.reverse_cons, List.zip_cons_cons, List.reverse_cons, ← zip_rev xs ys h, List.zip_append (by rw [List.length_reverse, List.length_reverse]; exact h)]
    rfl
end J

/-! ### rules: what is_rule tells, the first equation that is none -/
namespace J
open PySem L2 PyProof.Rows
noncomputable def isRule : Tm → Tm → Bool
  | .var _, _ => false
  | .app f ts, r => (vars r).all fun n => decide (n ∈ vars (.app f ts))
noncomputable def fbad (xs : List (Tm × Tm)) : Option Nat := xs.findIdx? fun x => !isRule x.1 x.2
theorem fbad_at {xs : List (Tm × Tm)} {i : Nat} {x : Tm × Tm} (h : ∀ y ∈ xs.take i, isRule y.1 y.2 = true) (g : xs[i]? = some x) (b : isRule x.1 x.2 = false) : fbad xs = some i := by
  unfold fbad
  rw [List.findIdx?_eq_some_iff_getElem]
  have hi := (List.getElem?_eq_some_iff.mp g).1
  have e := (List.getElem?_eq_some_iff.mp g).2
  refine ⟨hi, by rw [e, b]; rfl, fun j hj => ?_⟩
  have := h xs[j] (by rw [List.mem_take_iff_getElem]; exact ⟨j, by omega, rfl⟩)
  rw [this]; decide
theorem fbad_none {xs : List (Tm × Tm)} (h : ∀ y ∈ xs, isRule y.1 y.2 = true) : fbad xs = none := by
  unfold fbad
  rw [List.findIdx?_eq_none_iff]
  intro y hy
  rw [h y hy]; rfl
def fbI : Option Nat → Int
  | some i => (i : Int)
  | none => -1
def RulesOk (xs : List (Tm × Tm)) : Prop := ∀ x ∈ xs, x.1.sz ≤ 10000 ∧ x.2.sz ≤ 10000 ∧ x.1.dep ≤ 50 ∧ x.2.dep ≤ 50
end J

/-! ### an error with an __init__ that is made where nothing is handled, its context told; a def that may let it out -/
namespace J
open PySem L2 PyProof.Rows
theorem made_new {X : Cx} {C fI : Addr} {k : Nat} {fd : FuncData} {ps : List Str} {sp : Sp} (T : OexC X.K C) (iC : PySem.W.findIn X.K (.ref C) "__init__" = some (some (.ref fI))) (tI : PySem.W.typeIn X.K (.ref fI) = some (.type "function"))
    (F1 : FnOk X.prog X.w X.K X.mg X.base CX0 k fI fd ps sp) (hr : Room (k + 1) X.A) (hb : Binds X.K fd ps [])
    {pins : List (Addr × Obj)} {σ : L2.St} {H1 : Hp} {Q : XK} {vs : List V} {us : List Value} (s : Shared) (I : Inv X pins σ H1 s) (rv : Vals vs us) (hz : vs.length ≤ 1000)
    (q : ∀ a, H1 a = none → sp (.ref a :: vs) (upd H1 a (exo a C none))
      (fun v H2 => v = .non ∧ ∃ (d : Addr) (fs : List (Str × V)), H2 a = some (exo a C (some d)) ∧ H2 d = some (exd d fs) ∧ H1 d = none ∧ Q (.ref C) (some d) (upd (del H2 a) d (.xd fs))) E0) :
    wpAny (model X.prog X.w) X.A (call (.ref C) us) (L2N.MkP X pins σ Q) X.xe s := by
  obtain ⟨hp, g, dr, tk, os⟩ := s
  obtain ⟨nm, qn, N, bs, bm, sn, sub, ab, col, dd, k0, k1, k2, k3, k5, hC, hbm⟩ := T.cls
  -- the new object, behind the tuple of its arguments
  let e := hp.objs.size + 1
  have he : H1 e = none := I.hok.fresh (Nat.le_succ _)
  have grow : ∀ b o, hp.get? b = some o → ((hp.push (PySem.W.kdv_tup us)).push (PySem.HandSPX.excO C hp.objs.size)).get? b = some o := fun b o z => Heap.get?_push_of_some _ (Heap.get?_push_of_some _ z)
  have there : ((hp.push (PySem.W.kdv_tup us)).push (PySem.HandSPX.excO C hp.objs.size)).get? e = some (PySem.HandSPX.excO C hp.objs.size) := by
    show Heap.get? _ (hp.objs.size + 1) = _
    heap_get
  have J := I.laid (t' := tk) (a := e) (o := exo e C none) (h' := (hp.push (PySem.W.kdv_tup us)).push (PySem.HandSPX.excO C hp.objs.size)) grow (Nat.le_succ _) (exo_ok there)
  have rv' : Vals (V.ref e :: vs) (Value.ref e :: us) := .cons rfl rv
  have ul : us.length ≤ sizeLine := by
    rw [← Paired.length rv, sizeLine_eq]
    omega
  have nl : (Value.ref e :: us ++ []).length = ps.length := by
    have z := rv'.length
    rw [F1.len _ _ _ _ (q e he)] at z
    rw [List.append_nil]
    exact z.symm
  refine wpAny_call (PySem.HandSPX.call_own F.excBase_ValueError (fun Y => PySem.HandSPX.refsVE_contains Y bm hbm) (I.kIn _ _ hC) (PySem.W.looks_findIn I.kIn iC) (fun self => PySem.W.bind_fn I.kIn self tI) ul ?_)
  have bnd := hb _ (Value.ref e :: us) J.kIn nl
  rw [List.append_nil] at bnd
  refine codeAny_mono (F1.run _ X.stack _ _ ⟨Value.ref e :: us, []⟩ (Value.ref e :: us) _ _ E0 (hr.make C us []) (J.env0.make C us []) bnd rv' (q e he)) fun r s' z => ?_
  match r, z with
  | .error _, z => exact (show False from z).elim
  | .ok (.ret _), ⟨v, H2, eos, bare, un, ok2, rv2, ev, d, fs, ea, ed, fresh, fin⟩ =>
    subst ev
    obtain ⟨h2, g2, d2, t2, os2⟩ := s'
    obtain ⟨t0, G, JG, kG, nG, oG, hG⟩ := mk_end0 (d2 := d2) (t2 := t2) I (Nat.le_succ _) grow un ok2 eos bare ea ed fresh
    exact ⟨rv2, e, _, _, ⟨G, g2, d2, t2, os2⟩, _, .ref C, some d, rfl, JG, kG, nG, oG, ⟨rfl, rfl, fun w z => by cases z; rfl⟩, rfl, rfl, hG, rfl, bare, raises_own T.exC T.tyC, fin⟩
  | .ok .next, z => exact (show False from z).elim
  | .ok .brk, z => exact (show False from z).elim
  | .ok .cont, z => exact (show False from z).elim
theorem pmkN_oex {X : Cx} {x : Str} {C fI : Addr} {k : Nat} {fd : FuncData} {ps : List Str} {sp : Sp} {e : Expr} {es : List Expr} {ta : TA} {p pos : Pos} (T : OexC X.K C) (iC : PySem.W.findIn X.K (.ref C) "__init__" = some (some (.ref fI))) (tI : PySem.W.typeIn X.K (.ref fI) = some (.type "function"))
    (F1 : FnOk X.prog X.w X.K X.mg X.base CX0 k fI fd ps sp) (hr : Room (k + 1) X.A) (hb : Binds X.K fd ps []) (hg : Gl X x) (hm : X.mg x = some (.ref C)) (ha : PA X (e :: es) ta)
    (hdb : (x == ("__debug__" : Str)) = false := by decide) (he : starEach (e :: es) X.env = (false, eval e X.env) :: starEach es X.env := by rfl) (hpl : (backTo pos (starEach es X.env)).any (·.1) = false := by rfl) :
    L2N.PMk X (.Call (.Name x p) (e :: es) [] pos) (tMkO C sp [] ta) := by
  intro pins s σ H Q I h
  refine wpAny_Call_Name_kw (ld_glob I hg hm ?_ hdb)
  refine PySem.W.callWith_K (h₀ := X.base) I.ok.mod.kin T.kC (thn (ha.run pos pins s σ H _ I h) fun us s1 ⟨vs, H1, I1, r1, hz, q1⟩ => ⟨I1.kIn, ?_⟩) he hpl
  refine made_new T iC tI F1 hr hb s1 I1 r1 hz fun a na => ?_
  have z := q1 a na
  rw [List.append_nil] at z
  exact z
/-- a def that may raise, the context of what it lets out told -/
theorem okN {P : Program} {w : World} {K : PySem.W.Frag} {mg : Str → Option Value} {base : Heap} {x qual : Str} {st : Stmt} {f : Addr} {fd : FuncData} {N ps : List Str} {k : Nat} {sp : Sp} (F : Fun K x qual st f fd) (S : FnScope N ps (defScope st)) (len : ∀ vs H Q E, sp vs H Q E → vs.length = ps.length)
    (hbody : ∀ (cdv : Value) (A : Around) (outer : List Env) (s : Shared) (H : Hp) (vs : List V) (Q : VK) (E : XK), Room k (A.deeper (envOfC qual (defScope st) s.heap.objs.size f cdv)) → sp vs H Q E →
      ∃ t, PSs (cxOf (L2N.CX P w) P w K mg base N qual (defScope st) f cdv A outer s H E) (defBody st) t ∧ t { nx := fun _ H' => Q .non H', rt := Q } (L2.start N vs) H) : FnOk P w K mg base (L2N.CX P w) (k + 1) f fd ps sp := by
  obtain ⟨_, _, _, _, _, _, _, _, _, rfl, lk, hcd⟩ := F.ex
  exact fn_of lk hcd S len fun A outer s H vs Q E hr hsp => hbody _ A outer s H vs Q E hr hsp
/-- a def that is called while one error is handled -/
theorem okH {P : Program} {w : World} {K : PySem.W.Frag} {mg : Str → Option Value} {base : Heap} {x qual : Str} {st : Stmt} {f : Addr} {fd : FuncData} {N ps : List Str} {k : Nat} {sp : Sp} (F : Fun K x qual st f fd) (S : FnScope N ps (defScope st)) (len : ∀ vs H Q E, sp vs H Q E → vs.length = ps.length)
    (hbody : ∀ (cdv : Value) (A : Around) (outer : List Env) (s : Shared) (H : Hp) (vs : List V) (Q : VK) (E : XK) (p : Addr × Obj), L2H.RoomH k (A.deeper (envOfC qual (defScope st) s.heap.objs.size f cdv)) → sp vs H Q E →
      ∃ t, PSs (L2H.cxH CX0 P w K mg base N qual (defScope st) f cdv A outer s H E p) (defBody st) t ∧ t { nx := fun _ H' => Q .non H', rt := Q } (L2.start N vs) H) : L2H.FnH P w K mg base CX0 (k + 1) f fd ps sp := by
  obtain ⟨_, _, _, _, _, _, _, _, _, rfl, lk, hcd⟩ := F.ex
  exact L2H.fn_ofH lk hcd S len fun A outer s H vs Q E p _ hr hsp => hbody _ A outer s H vs Q E p hr hsp
theorem hot_of {X : Cx} {a : Addr} {oe : Obj} {cls : Value} {d : Option Addr} {pn : List (Addr × Obj)} (hz : L2N.Zn cls d oe) (hf : ∃ vs, oe.data = .fields vs) : L2H.HotC (X.suite a ((a, oe) :: pn)) := by
  obtain ⟨vs, hv⟩ := hf
  exact ⟨(a, oe), ⟨rfl, vs, hv, hz.2.2 vs hv⟩, List.mem_cons_self⟩
theorem takesN0 {X : Cx} : L2N.Takes X (fun _ _ _ _ => False) := fun _ _ x => by
  obtain ⟨_, _, _, _, _, _, _, _, _, _, _, _, _, _, _, _, z⟩ := x
  exact z.elim
theorem passH0 {X : Cx} {σ : L2.St} {E : XK} : PassesAt CX0 X σ E := fun _ _ _ _ _ _ c => c.elim
end J

/-! ### how often and how deep the variables of a term stand; for k, v in d.items() -/
namespace J
open PySem L2
mutual
/-- the variables with their levels, the whole at level k -/
def olv (k : Nat) : Tm → List (Int × Nat)
  | .var n => [(n, k)]
  | .app _ ts => olvs (k + 1) ts
def olvs (k : Nat) : List Tm → List (Int × Nat)
  | [] => []
  | t :: ts => olv k t ++ olvs k ts
end
theorem olvs_app (k : Nat) : ∀ a b : List Tm, olvs k (a ++ b) = olvs k a ++ olvs k b
  | [], _ => rfl
  | t :: a, b => by show olv k t ++ olvs k (a ++ b) = (olv k t ++ olvs k a) ++ olvs k b; rw [olvs_app k a b, List.append_assoc]
mutual
theorem olv_occ (k : Nat) : ∀ t : Tm, (olv k t).map (·.1) = occ t
  | .var _ => rfl
  | .app _ ts => olvs_occ (k + 1) ts
theorem olvs_occ (k : Nat) : ∀ ts : List Tm, (olvs k ts).map (·.1) = occs ts
  | [] => rfl
  | t :: ts => by show (olv k t ++ olvs k ts).map _ = _; rw [List.map_append, olv_occ k t, olvs_occ k ts]; rfl
end
/-- sums and greatest depths over such a list -/
def osum (w : Int → Nat) (l : List (Int × Nat)) : Nat := (l.map fun x => w x.1).sum
def omx (d : Int → Nat) : List (Int × Nat) → Nat
  | [] => 0
  | x :: r => max (x.2 - 1 + d x.1) (omx d r)
theorem osum_app (w : Int → Nat) (a b : List (Int × Nat)) : osum w (a ++ b) = osum w a + osum w b := by unfold osum; rw [List.map_append, List.sum_append]
theorem omx_app (d : Int → Nat) : ∀ a b : List (Int × Nat), omx d (a ++ b) = max (omx d a) (omx d b)
  | [], b => (Nat.zero_max _).symm
  | x :: a, b => by show max _ (omx d (a ++ b)) = max (max _ (omx d a)) _; rw [omx_app d a b]; omega
theorem osum_perm (w : Int → Nat) {a b : List (Int × Nat)} (h : a.Perm b) : osum w a = osum w b := (h.map _).sum_nat
theorem omx_perm (d : Int → Nat) {a b : List (Int × Nat)} (h : a.Perm b) : omx d a = omx d b := by
  induction h with
  | nil => rfl
  | cons x _ ih => show max _ _ = max _ _; rw [ih]
  | swap x y l => show max _ (max _ _) = max _ (max _ _); omega
  | trans _ _ ih1 ih2 => exact ih1.trans ih2
mutual
theorem sub_szE (m : Int → Option Tm) : ∀ (k : Nat) (t : Tm), (sub m t).sz = t.sz + osum (fun n => ((m n).getD (.var n)).sz - 1) (olv k t)
  | k, .var n => by
    have := Tm.sz_pos ((m n).getD (.var n))
    show ((m n).getD (.var n)).sz = 1 + (((m n).getD (.var n)).sz - 1 + 0)
    omega
  | k, .app _ ts => by
    have := subs_szE m (k + 1) ts
    show 1 + Tm.szs (subs m ts) = (1 + Tm.szs ts) + osum _ (olvs (k + 1) ts)
    omega
theorem subs_szE (m : Int → Option Tm) : ∀ (k : Nat) (ts : List Tm), Tm.szs (subs m ts) = Tm.szs ts + osum (fun n => ((m n).getD (.var n)).sz - 1) (olvs k ts)
  | _, [] => rfl
  | k, t :: ts => by
    have h1 := sub_szE m k t
    have h2 := subs_szE m k ts
    show (sub m t).sz + Tm.szs (subs m ts) = (t.sz + Tm.szs ts) + osum _ (olv k t ++ olvs k ts)
    rw [osum_app]
    omega
end
mutual
theorem sub_depE (m : Int → Option Tm) : ∀ (k : Nat) (t : Tm), k + (sub m t).dep = max (k + t.dep) (omx (fun n => ((m n).getD (.var n)).dep) (olv (k + 1) t))
  | k, .var n => by
    have := Tm.dep_pos ((m n).getD (.var n))
    show k + ((m n).getD (.var n)).dep = max (k + 1) (max (k + 1 - 1 + ((m n).getD (.var n)).dep) 0)
    omega
  | k, .app _ ts => by
    have := subs_depE m (k + 1) ts
    show k + (1 + Tm.deps (subs m ts)) = max (k + (1 + Tm.deps ts)) (omx _ (olvs (k + 1 + 1) ts))
    omega
theorem subs_depE (m : Int → Option Tm) : ∀ (k : Nat) (ts : List Tm), k + Tm.deps (subs m ts) = max (k + Tm.deps ts) (omx (fun n => ((m n).getD (.var n)).dep) (olvs (k + 1) ts))
  | k, [] => by show k + 0 = max (k + 0) 0; omega
  | k, t :: ts => by
    have h1 := sub_depE m k t
    have h2 := subs_depE m k ts
    show k + max (sub m t).dep (Tm.deps (subs m ts)) = max (k + max t.dep (Tm.deps ts)) (omx _ (olv (k + 1) t ++ olvs (k + 1) ts))
    rw [omx_app]
    omega
end
/-- the next row of a walk by levels -/
def kidsOf : List Tm → List Tm
  | [] => []
  | .var _ :: r => kidsOf r
  | .app _ ts :: r => ts ++ kidsOf r
def varsAt (k : Nat) : List Tm → List (Int × Nat)
  | [] => []
  | .var n :: r => (n, k) :: varsAt k r
  | .app _ _ :: r => varsAt k r
theorem varsAt_app (k : Nat) : ∀ a b : List Tm, varsAt k (a ++ b) = varsAt k a ++ varsAt k b
  | [], _ => rfl
  | .var n :: a, b => congrArg _ (varsAt_app k a b)
  | .app _ _ :: a, b => varsAt_app k a b
theorem row_perm (k : Nat) : ∀ r : List Tm, (varsAt k r ++ olvs (k + 1) (kidsOf r)).Perm (olvs k r)
  | [] => List.Perm.refl _
  | .var n :: r => (row_perm k r).cons _
  | .app _ ts :: r => by
    show (varsAt k r ++ olvs (k + 1) (ts ++ kidsOf r)).Perm (olvs (k + 1) ts ++ olvs k r)
    rw [olvs_app]
    refine List.Perm.trans ?_ ((row_perm k r).append_left _)
    rw [← List.append_assoc, ← List.append_assoc]
    exact (List.perm_append_comm (l₁ := varsAt k r) (l₂ := olvs (k + 1) ts)).append_right _
/-! tallies -/
abbrev Tl := List (Int × Nat × Nat)
def tput (tl : Tl) (n : Int) (l : Nat) : Tl := if n ∈ tl.map (·.1) then tl.map (fun x => if x.1 = n then (x.1, x.2.1 + 1, l) else x) else tl ++ [(n, 1, l)]
def tsum (w : Int → Nat) (tl : Tl) : Nat := (tl.map fun x => x.2.1 * w x.1).sum
def tmx (d : Int → Nat) : Tl → Nat
  | [] => 0
  | x :: r => max (x.2.2 - 1 + d x.1) (tmx d r)
theorem tmx_app (d : Int → Nat) : ∀ a b : Tl, tmx d (a ++ b) = max (tmx d a) (tmx d b)
  | [], b => (Nat.zero_max _).symm
  | x :: a, b => by show max _ (tmx d (a ++ b)) = max (max _ (tmx d a)) _; rw [tmx_app d a b]; omega
theorem tput_keys (tl : Tl) (n : Int) (l : Nat) : (tput tl n l).map (·.1) = if n ∈ tl.map (·.1) then tl.map (·.1) else tl.map (·.1) ++ [n] := by
  unfold tput
  by_cases h : n ∈ tl.map (·.1)
  · rw [if_pos h, if_pos h, List.map_map]
    refine List.map_congr_left fun x _ => ?_
    show (if x.1 = n then (x.1, x.2.1 + 1, l) else x).1 = x.1
    split <;> rfl
  · rw [if_neg h, if_neg h, List.map_append]; rfl
theorem map_no (tl : Tl) (n : Int) (l : Nat) (h : n ∉ tl.map (·.1)) : tl.map (fun x => if x.1 = n then (x.1, x.2.1 + 1, l) else x) = tl := by
  refine (List.map_congr_left fun x hx => ?_).trans (List.map_id _)
  exact if_neg fun z => h (List.mem_map.mpr ⟨x, hx, z⟩)
theorem tsum_put (w : Int → Nat) (n : Int) (l : Nat) : ∀ tl : Tl, (tl.map (·.1)).Nodup → tsum w (tput tl n l) = tsum w tl + w n := by
  intro tl nd
  unfold tput
  by_cases h : n ∈ tl.map (·.1)
  · rw [if_pos h]
    induction tl with
    | nil => cases h
    | cons x r ih =>
      rw [List.map_cons, List.nodup_cons] at nd
      by_cases e : x.1 = n
      · subst e
        rw [List.map_cons, if_pos rfl, map_no r x.1 l nd.1]
        show (x.2.1 + 1) * w x.1 + tsum w r = x.2.1 * w x.1 + tsum w r + w x.1
        rw [Nat.add_mul, Nat.one_mul]; omega
      · rw [List.map_cons, if_neg e]
        have h : n ∈ r.map (·.1) := by
          rw [List.map_cons] at h
          exact (List.mem_cons.mp h).resolve_left fun z => e z.symm
        have := ih nd.2 h
        show x.2.1 * w x.1 + tsum w _ = x.2.1 * w x.1 + tsum w r + w n
        omega
  · rw [if_neg h]
    unfold tsum
    rw [List.map_append, List.sum_append]
    show _ + (1 * w n + 0) = _
    omega
theorem tmx_put (d : Int → Nat) (n : Int) (l : Nat) : ∀ tl : Tl, (tl.map (·.1)).Nodup → (∀ x ∈ tl, x.2.2 ≤ l) → tmx d (tput tl n l) = max (tmx d tl) (l - 1 + d n) := by
  intro tl nd hl
  unfold tput
  by_cases h : n ∈ tl.map (·.1)
  · rw [if_pos h]
    induction tl with
    | nil => cases h
    | cons x r ih =>
      rw [List.map_cons, List.nodup_cons] at nd
      have hx := hl x (List.mem_cons_self ..)
      by_cases e : x.1 = n
      · subst e
        rw [List.map_cons, if_pos rfl, map_no r x.1 l nd.1]
        show max (l - 1 + d x.1) (tmx d r) = max (max (x.2.2 - 1 + d x.1) (tmx d r)) (l - 1 + d x.1)
        omega
      · rw [List.map_cons, if_neg e]
        have h : n ∈ r.map (·.1) := by
          rw [List.map_cons] at h
          exact (List.mem_cons.mp h).resolve_left fun z => e z.symm
        have := ih nd.2 (fun y hy => hl y (List.mem_cons_of_mem _ hy)) h
        show max (x.2.2 - 1 + d x.1) (tmx d _) = max (max (x.2.2 - 1 + d x.1) (tmx d r)) _
        omega
  · rw [if_neg h, tmx_app]
    show max _ (max (l - 1 + d n) 0) = _
    omega
/-- tl counts ols, whose levels are at most L -/
structure Tal (L : Nat) (tl : Tl) (ols : List (Int × Nat)) : Prop where
  nd : (tl.map (·.1)).Nodup
  lv : ∀ x ∈ tl, x.2.2 ≤ L
  lo : ∀ x ∈ tl, 1 ≤ x.2.2
  sum : ∀ w, tsum w tl = osum w ols
  mx : ∀ d, tmx d tl = omx d ols
  mem : ∀ n, n ∈ tl.map (·.1) ↔ n ∈ ols.map (·.1)
  ct : ∀ x ∈ tl, x.2.1 ≤ ols.length
  len : tl.length ≤ ols.length
theorem Tal.nil : Tal 0 [] [] := ⟨List.nodup_nil, (fun _ h => nomatch h), (fun _ h => nomatch h), fun _ => rfl, fun _ => rfl, fun _ => Iff.rfl, (fun _ h => nomatch h), Nat.le_refl _⟩
theorem Tal.mono {L M : Nat} {tl : Tl} {ols : List (Int × Nat)} (h : Tal L tl ols) (le : L ≤ M) : Tal M tl ols := ⟨h.nd, fun x hx => Nat.le_trans (h.lv x hx) le, h.lo, h.sum, h.mx, h.mem, h.ct, h.len⟩
theorem Tal.perm {L : Nat} {tl : Tl} {a b : List (Int × Nat)} (h : Tal L tl a) (p : a.Perm b) : Tal L tl b :=
  ⟨h.nd, h.lv, h.lo, fun w => (h.sum w).trans (osum_perm w p), fun d => (h.mx d).trans (omx_perm d p), fun n => (h.mem n).trans (p.map _).mem_iff, fun x hx => by rw [← p.length_eq]; exact h.ct x hx, by rw [← p.length_eq]; exact h.len⟩
theorem Tal.put {L : Nat} {tl : Tl} {ols : List (Int × Nat)} (h : Tal L tl ols) (n : Int) (hL : 1 ≤ L) : Tal L (tput tl n L) (ols ++ [(n, L)]) := by
  refine ⟨?_, fun x hx => ?_, fun x hx => ?_, fun w => ?_, fun d => ?_, fun k => ?_, fun x hx => ?_, ?_⟩
  · rw [tput_keys]
    by_cases z : n ∈ tl.map (·.1)
    · rw [if_pos z]; exact h.nd
    · rw [if_neg z]
      refine List.nodup_append.mpr ⟨h.nd, (by simp), fun a ha b hb => ?_⟩
      rw [List.mem_singleton] at hb
      exact fun e => z (by rw [← hb, ← e]; exact ha)
  · unfold tput at hx
    split at hx
    · obtain ⟨y, hy, e⟩ := List.mem_map.mp hx
      rw [← e]
      split
      · exact Nat.le_refl _
      · exact h.lv y hy
    · rcases List.mem_append.mp hx with hx | hx
      · exact h.lv x hx
      · rw [List.mem_singleton.mp hx]; exact Nat.le_refl _
  · unfold tput at hx
    split at hx
    · obtain ⟨y, hy, e⟩ := List.mem_map.mp hx
      rw [← e]
      split
      · exact hL
      · exact h.lo y hy
    · rcases List.mem_append.mp hx with hx | hx
      · exact h.lo x hx
      · rw [List.mem_singleton.mp hx]; exact hL
  · rw [tsum_put w n L tl h.nd, h.sum, osum_app]; rfl
  · rw [tmx_put d n L tl h.nd h.lv, h.mx, omx_app]
    show _ = max _ (max (L - 1 + d n) 0)
    omega
  · rw [tput_keys, List.map_append, List.mem_append, ← h.mem k]
    by_cases z : n ∈ tl.map (·.1)
    · rw [if_pos z]
      exact ⟨.inl, fun w => w.elim id fun w => by rw [List.mem_singleton.mp w]; exact z⟩
    · rw [if_neg z, List.mem_append]; exact Iff.rfl
  · unfold tput at hx
    rw [List.length_append, List.length_singleton]
    split at hx
    · obtain ⟨y, hy, e⟩ := List.mem_map.mp hx
      have := h.ct y hy
      rw [← e]
      split
      · show y.2.1 + 1 ≤ _; omega
      · omega
    · rcases List.mem_append.mp hx with hx | hx
      · have := h.ct x hx; omega
      · rw [List.mem_singleton.mp hx]; show 1 ≤ _; omega
  · have e : (tput tl n L).length ≤ tl.length + 1 := by
      unfold tput
      split
      · rw [List.length_map]; omega
      · rw [List.length_append]; exact Nat.le_refl _
    have := h.len
    rw [List.length_append, List.length_singleton]; omega
/-- the dict holds the tally -/
def TalIn (H : Hp) : List (Key × V) → Tl → Prop
  | [], [] => True
  | kv :: r, x :: l => kv.1 = .inl x.1 ∧ (∃ a, kv.2 = .ref a ∧ H a = some (.tup [.int (x.2.1 : Int), .int (x.2.2 : Int)])) ∧ TalIn H r l
  | _, _ => False
theorem TalIn.tu {H H' : Hp} (t : Tu H H') : ∀ {kvs : List (Key × V)} {tl : Tl}, TalIn H kvs tl → TalIn H' kvs tl
  | [], [], _ => trivial
  | [], _ :: _, h => h.elim
  | _ :: _, [], h => h.elim
  | _ :: _, _ :: _, ⟨e, ⟨a, e2, h⟩, r⟩ => ⟨e, ⟨a, e2, t _ _ h⟩, TalIn.tu t r⟩
theorem TalIn.length {H : Hp} : ∀ {kvs : List (Key × V)} {tl : Tl}, TalIn H kvs tl → kvs.length = tl.length
  | [], [], _ => rfl
  | [], _ :: _, h => h.elim
  | _ :: _, [], h => h.elim
  | _ :: _, _ :: _, h => congrArg (· + 1) (TalIn.length h.2.2)
theorem TalIn.keys {H : Hp} : ∀ {kvs : List (Key × V)} {tl : Tl}, TalIn H kvs tl → kvs.map (·.1) = (tl.map (·.1)).map Sum.inl
  | [], [], _ => rfl
  | [], _ :: _, h => h.elim
  | _ :: _, [], h => h.elim
  | _ :: _, _ :: _, h => by rw [List.map_cons, List.map_cons, List.map_cons, h.1, TalIn.keys h.2.2]
theorem TalIn.get {H : Hp} : ∀ {kvs : List (Key × V)} {tl : Tl} {i : Nat} {k : Key} {v : V}, TalIn H kvs tl → kvs[i]? = some (k, v) → ∃ (x : Int × Nat × Nat) (a : Addr), tl[i]? = some x ∧ k = .inl x.1 ∧ v = .ref a ∧ H a = some (.tup [.int (x.2.1 : Int), .int (x.2.2 : Int)])
  | [], _, i, _, _, _, e => by simp at e
  | _ :: _, [], _, _, _, h, _ => h.elim
  | kv :: r, x :: l, 0, k, v, h, e => by
    have e : kv = (k, v) := by simpa using e
    subst e
    obtain ⟨e1, ⟨a, e2, e3⟩, _⟩ := h
    exact ⟨x, a, rfl, e1, e2, e3⟩
  | kv :: r, x :: l, i + 1, k, v, h, e => by
    obtain ⟨y, a, h1, h2⟩ := TalIn.get (i := i) (k := k) (v := v) h.2.2 (by simpa using e)
    exact ⟨y, a, by simpa using h1, h2⟩
theorem TalIn.hasnt {H : Hp} (n : Int) : ∀ {kvs : List (Key × V)} {tl : Tl}, TalIn H kvs tl → valV kvs (.inl n) = none → n ∉ tl.map (·.1)
  | [], [], _, _ => fun z => nomatch z
  | [], _ :: _, h, _ => h.elim
  | _ :: _, [], h, _ => h.elim
  | kv :: r, x :: l, h, e => by
    by_cases z : kv.1 = .inl n
    · rw [valV_pos z] at e; cases e
    · rw [valV_neg z] at e
      have := TalIn.hasnt n h.2.2 e
      rw [List.map_cons]
      exact fun w => (List.mem_cons.mp w).elim (fun w => z (by rw [h.1, w])) this
theorem TalIn.has {H : Hp} (n : Int) : ∀ {kvs : List (Key × V)} {tl : Tl} {v : V}, (tl.map (·.1)).Nodup → TalIn H kvs tl → valV kvs (.inl n) = some v → ∃ (c l : Nat) (a : Addr), v = .ref a ∧ H a = some (.tup [.int (c : Int), .int (l : Int)]) ∧ (n, c, l) ∈ tl ∧ ∀ x ∈ tl, x.1 = n → x = (n, c, l)
  | [], [], _, _, _, e => nomatch e
  | [], _ :: _, _, _, h, _ => h.elim
  | _ :: _, [], _, _, h, _ => h.elim
  | kv :: r, x :: l, v, nd, h, e => by
    obtain ⟨e1, ⟨a, e2, e3⟩, hr⟩ := h
    rw [List.map_cons, List.nodup_cons] at nd
    by_cases z : kv.1 = .inl n
    · rw [valV_pos z] at e
      rw [e1] at z
      injection z with z
      subst z
      refine ⟨x.2.1, x.2.2, a, (Option.some.inj e).symm.trans e2, e3, List.mem_cons_self .., fun y hy ey => ?_⟩
      rcases List.mem_cons.mp hy with w | w
      · exact w
      · exact absurd (List.mem_map.mpr ⟨y, w, ey⟩) nd.1
    · rw [valV_neg z] at e
      obtain ⟨c, l0, a0, q1, q2, q3, q4⟩ := TalIn.has n nd.2 hr e
      refine ⟨c, l0, a0, q1, q2, List.mem_cons_of_mem _ q3, fun y hy ey => ?_⟩
      rcases List.mem_cons.mp hy with w | w
      · exact absurd (show kv.1 = .inl n by rw [e1, ← w, ey]) z
      · exact q4 y w ey
theorem TalIn.put {H H' : Hp} {n : Int} {L c : Nat} {a : Addr} (t : Tu H H') (ha : H' a = some (.tup [.int (c : Int), .int (L : Int)])) : ∀ {kvs : List (Key × V)} {tl : Tl}, TalIn H kvs tl → (∀ x ∈ tl, x.1 = n → x.2.1 + 1 = c) → (n ∉ tl.map (·.1) → c = 1) → TalIn H' (putK kvs (.inl n) (.ref a)) (tput tl n L) := by
  intro kvs tl h h1 h2
  have hk := h.keys
  have key : n ∈ tl.map (·.1) ↔ (kvs.any fun kv => decide (kv.1 = (Sum.inl n : Key))) = true := by
    rw [List.any_eq_true]
    constructor
    · intro z
      have : (Sum.inl n : Key) ∈ kvs.map (·.1) := by rw [hk]; exact List.mem_map.mpr ⟨n, z, rfl⟩
      obtain ⟨kv, q, e⟩ := List.mem_map.mp this
      exact ⟨kv, q, decide_eq_true e⟩
    · rintro ⟨kv, q, e⟩
      have : (Sum.inl n : Key) ∈ (tl.map (·.1)).map Sum.inl := by rw [← hk]; exact List.mem_map.mpr ⟨kv, q, of_decide_eq_true e⟩
      obtain ⟨y, hy, e⟩ := List.mem_map.mp this
      cases e; exact hy
  unfold putK tput
  by_cases z : n ∈ tl.map (·.1)
  · rw [if_pos z, if_pos (key.mp z)]
    clear key hk h2 z
    induction kvs generalizing tl with
    | nil => cases tl with | nil => exact trivial | cons _ _ => exact h.elim
    | cons kv r ih =>
      cases tl with
      | nil => exact h.elim
      | cons x l =>
        obtain ⟨e1, ⟨b, e2, e3⟩, hr⟩ := h
        rw [List.map_cons, List.map_cons]
        refine ⟨?_, ?_, ih hr fun y hy => h1 y (List.mem_cons_of_mem _ hy)⟩
        · by_cases w : x.1 = n
          · rw [if_pos w, if_pos (by rw [e1, w])]; exact e1
          · rw [if_neg w, if_neg fun q => w (by rw [e1] at q; exact Sum.inl.inj q)]; exact e1
        · by_cases w : x.1 = n
          · rw [if_pos w, if_pos (by rw [e1, w])]
            exact ⟨a, rfl, by show H' a = some (.tup [.int ((x.2.1 + 1 : Nat) : Int), .int (L : Int)]); rw [h1 x (List.mem_cons_self ..) w]; exact ha⟩
          · rw [if_neg w, if_neg fun q => w (by rw [e1] at q; exact Sum.inl.inj q)]; exact ⟨b, e2, t _ _ e3⟩
  · rw [if_neg z, if_neg fun q => z (key.mpr q)]
    have := h2 z
    subst this
    clear key hk h1 h2 z
    induction kvs generalizing tl with
    | nil => cases tl with | nil => exact ⟨rfl, ⟨a, rfl, ha⟩, trivial⟩ | cons _ _ => exact h.elim
    | cons kv r ih =>
      cases tl with
      | nil => exact h.elim
      | cons x l =>
        obtain ⟨e1, ⟨b, e2, e3⟩, hr⟩ := h
        exact ⟨e1, ⟨b, e2, t _ _ e3⟩, ih hr⟩
/-- a term's profile at p, its tally tl at x -/
def ProIn (H : Hp) (p : Addr) (t : Tm) (x : Addr) (tl : Tl) : Prop := H p = some (.tup [.int (t.sz : Int), .int (t.dep : Int), .ref x]) ∧ ∃ kvs, H x = some (.dK kvs) ∧ TalIn H kvs tl ∧ Tal t.dep tl (olv 1 t)
theorem ProIn.td {H H' : Hp} {p x : Addr} {t : Tm} {tl : Tl} (h : ProIn H p t x tl) (s : Tu H H') (d : ∀ kvs, H x = some (.dK kvs) → H' x = some (.dK kvs)) : ProIn H' p t x tl := by
  obtain ⟨h1, kvs, h2, h3, h4⟩ := h
  exact ⟨s _ _ h1, kvs, d _ h2, h3.tu s, h4⟩
theorem ProIn.same {H H' : Hp} {p x : Addr} {t : Tm} {tl : Tl} (h : ProIn H p t x tl) (s : Same H H') : ProIn H' p t x tl := h.td (tu_same s) fun _ q => s _ _ q
/-! for k, v in d.items() -/
theorem for_items {d : Addr} {o : Obj} {kvs : List (Key × V)} {g : TG} {tb : TS} {D : Ends} {σ : L2.St} {H : Hp} (Pv : Nat → L2.St → Hp → Prop) (h0 : Pv 0 σ H) (hl : ∀ i σ H, i ≤ kvs.length → Pv i σ H → H d = some (.frz o (.dK kvs)))
    (hs : ∀ i k v σ H T, kvs[i]? = some (k, v) → Pv i σ H → H T = none → g (.ref T) σ (upd H T (.tup [kV k, v])) fun σ2 H2 => tb { D with nx := Pv (i + 1), ct := Pv (i + 1), bk := D.nx } σ2 H2) (hd : ∀ σ H, Pv kvs.length σ H → D.nx σ H) :
    ∃ W : Nat → Nat → L2.St → Hp → Prop, (∃ m, W 0 m σ H) ∧ ∀ i m σ H, W i m σ H →
      ((Iti d o kvs).stop i H ∧ D.nx σ H) ∨ ((Iti d o kvs).go i H ∧ ∃ N : L2.St → Hp → Prop, (∀ σ' H', N σ' H' → ∃ m', m' < m ∧ W (i + 1) m' σ' H') ∧ ∀ x H', (Iti d o kvs).yld i H x H' → g x σ H' fun σ2 H2 => tb { D with nx := N, ct := N, bk := D.nx } σ2 H2) := by
  refine ⟨fun i m σ H => m = kvs.length - i ∧ i ≤ kvs.length ∧ Pv i σ H, ⟨kvs.length, by simp, Nat.zero_le _, h0⟩, ?_⟩
  rintro i m σ H ⟨rfl, hi, p⟩
  have q := hl i σ H hi p
  by_cases hlt : i < kvs.length
  · refine .inr ⟨⟨q, hlt⟩, Pv (i + 1), fun σ' H' p' => ⟨kvs.length - (i + 1), by omega, rfl, hlt, p'⟩, fun x H' y => ?_⟩
    obtain ⟨T, k, v, h1, h2, h3, h4⟩ := y
    subst h2 h4
    exact hs i k v σ H T h1 p h3
  · have e : i = kvs.length := by omega
    subst e
    exact .inl ⟨⟨q, Nat.le_refl _⟩, hd σ H p⟩
/-- H with the object u at d locked -/
structure Lk (H HL : Hp) (d : Addr) (od : Obj) (u : HO) : Prop where
  at_ : HL d = some (.frz od u)
  ot : ∀ c o, H c = some o → c ≠ d → HL c = some o
  no : ∀ c, H c = none → HL c = none
  was : H d = some u
theorem Lk.of {H : Hp} {d : Addr} {od : Obj} {u : HO} (h : H d = some u) : Lk H (upd H d (.frz od u)) d od u :=
  ⟨upd_same, fun c o e ne => by rw [upd_ne ne]; exact e, fun c e => by rw [upd_ne fun z => by rw [z, h] at e; cases e]; exact e, h⟩
theorem Lk.tu {H HL : Hp} {d : Addr} {od : Obj} {kvs : List (Key × V)} (k : Lk H HL d od (.dK kvs)) : Tu H HL := fun c xs e => k.ot c _ e fun z => by rw [z, k.was] at e; cases e
theorem Lk.back {H HL H' : Hp} {d : Addr} {od : Obj} {u : HO} (k : Lk H HL d od u) (s : Same HL H') : Same H (upd H' d u) := fun c o e => by
  by_cases z : c = d
  · subst z; rw [upd_same, ← e, k.was]
  · rw [upd_ne z]; exact s _ _ (k.ot c o e z)
theorem Lk.but {H HL H' : Hp} {d f : Addr} {od : Obj} {u : HO} (k : Lk H HL d od u) (s : But f HL H') : But f H (upd H' d u) := fun c o e ne => by
  by_cases z : c = d
  · subst z; rw [upd_same, ← e, k.was]
  · rw [upd_ne z]; exact s _ _ (k.ot c o e z) ne
/-- a dict whose values are pairs of ints -/
def Fnd (H : Hp) (kvs : List (Key × V)) : Prop := ∀ k v, valV kvs k = some v → ∃ (a : Addr) (c l : Int), v = .ref a ∧ H a = some (.tup [.int c, .int l])
theorem Fnd.nil {H : Hp} : Fnd H [] := fun _ _ e => nomatch e
theorem Fnd.tu {H H' : Hp} {kvs : List (Key × V)} (h : Fnd H kvs) (t : Tu H H') : Fnd H' kvs := fun k v e => by
  obtain ⟨a, c, l, rfl, ha⟩ := h k v e
  exact ⟨a, c, l, rfl, t _ _ ha⟩
theorem Fnd.put {H : Hp} {kvs : List (Key × V)} (h : Fnd H kvs) {k : Key} {a : Addr} {c l : Int} (ha : H a = some (.tup [.int c, .int l])) : Fnd H (putK kvs k (.ref a)) := fun j v e => by
  rw [valV_put] at e
  by_cases hj : j = k
  · rw [if_pos hj] at e
    cases e
    exact ⟨a, c, l, rfl, ha⟩
  · rw [if_neg hj] at e
    exact h j v e
theorem tsum_snoc (w : Int → Nat) (l : Tl) (x : Int × Nat × Nat) : tsum w (l ++ [x]) = tsum w l + x.2.1 * w x.1 := by
  unfold tsum
  rw [List.map_append, List.sum_append]
  exact congrArg _ (Nat.add_zero _)
theorem tmx_snoc (d : Int → Nat) (l : Tl) (x : Int × Nat × Nat) : tmx d (l ++ [x]) = max (tmx d l) (x.2.2 - 1 + d x.1) := by
  rw [tmx_app]
  show max _ (max _ 0) = _
  rw [Nat.max_zero]
theorem max_if (a b : Nat) {i j : Int} (hi : i = (a : Int)) (hj : j = (b : Int)) : (if j > i then j else i) = ((max a b : Nat) : Int) := by
  split <;> omega
end J

/-! ### a method of a try's body, which may raise -/
namespace J
open PySem L2 PyProof.Rows
section
variable {X : Cx} {CX : CXT} {k : Nat} {f C : Addr} {fd : FuncData} {ps : List Str} {sp : Sp} {E : L2.St → XK} {m : Str} {apos pos : Pos} {e o : Expr} {es : List Expr} {ta : TE} {t : TA}
def tMethS (C : Addr) (m : Str) (sp : Sp) (E : L2.St → XK) (ta : TE) (t : TA) : TE := fun σ H Q => ta σ H fun x H1 => ∃ a dx fs, x = .ref a ∧ H1 a = some (.ins C dx fs) ∧ fs.lookup m = none ∧ t σ H1 fun vs H2 => sp (x :: vs) H2 Q (E σ)
theorem pe_methS {pl : Sem Bool} (he : PE X o ta) (c : Cls X.K C) (hm : Meth X.K C m f) (F : FnOk X.prog X.w X.K X.mg X.base CX k f fd ps sp) (hr : Room k X.A) (hb : Binds X.K fd ps []) (hx : ∀ σ, PassesAt CX X σ (E σ)) (ha : PA X (e :: es) t)
    (hst : starEach (e :: es) X.env = (false, eval e X.env) :: starEach es X.env := by rfl) (hpl : (backTo pos (starEach es X.env)).any (·.1) = false := by rfl)
    (ht : eval (.Call (.Attribute o m apos) (e :: es) [] pos) X.env = (do
      let ov ← eval o X.env
      standAt apos.atName
      let (f, first) ← holding [ov] (getMethod ov m pl)
      callWith pos f first (backTo pos (starEach (e :: es) X.env)) (backToKw pos (keywordEach [] X.env))) := by rfl) :
    PE X (.Call (.Attribute o m apos) (e :: es) [] pos) (tMethS C m sp E ta t) := by
  refine ⟨fun pins s σ H Q I h => ?_⟩
  refine PySem.W.methodCall_KW (pl := pl) (thn (he.run pins s σ H _ I h) fun u s1 ⟨x, H1, I1, rx, a, dx, fs, ex, ea, l, q⟩ => ?_) ht
  subst ex
  obtain rfl : u = Value.ref a := rx
  refine getmeth_ok I1 ea c hm l ?_
  refine PySem.W.callWith_K (first := [.ref a]) (h₀ := X.base) I.ok.mod.kin hm.kp (thn (ha.run pos pins s1 σ H1 _ I1 q) fun us s2 ⟨vs, H2, I2, r, q2⟩ => ⟨I2.kIn, ?_⟩) hst hpl
  exact run_fnS (us := .ref a :: us) (vs := .ref a :: vs) F hr hb (hx σ) I2 (.cons rfl r) q2
end
end J

namespace Lw
open PySem L2 PyProof.Rows J
local macro_rules | `(tactic| walk_at "hp") => `(tactic| first | assumption | exact upd_same)
local macro_rules | `(tactic| walk_at "side") => `(tactic| first
  | (show (0 : Int) < _; decide)
  | exact Or.inr ⟨by decide, by decide⟩
  | exact Or.inl ⟨by decide, by decide⟩
  | exact ⟨by decide, by decide⟩
  | exact ⟨by decide, by decide, by decide⟩
  | (show (_ : Int) ≠ 0; omega)
  | (show _ < _; omega)
  | exact ⟨by omega, by omega⟩
  | exact Or.inl ⟨by omega, by omega⟩
  | exact Or.inr ⟨by omega, by omega⟩)
local macro_rules | `(tactic| walk_at "rd1") => `(tactic| first
  | refine ⟨_, rfl, ?_⟩
  | refine ⟨_, _, rfl, rfl, by walk_at "side", ?_⟩
  | refine ⟨_, _, rfl, rfl, ?_⟩
  | refine .inl ⟨_, rfl, ?_⟩
  | refine ⟨_, _, _, _, rfl, rfl, SqL.of (by walk_at "hp"), by first | assumption | exact at_zero | rfl, ?_⟩
  | refine ⟨_, _, _, _, rfl, rfl, SqT.of (by walk_at "hp"), by first | assumption | exact at_zero | rfl, ?_⟩
  | refine ⟨_, _, rfl, .inl (SqL.of (by walk_at "hp")), ?_⟩
  | refine ⟨_, _, rfl, .inr (SqT.of (by walk_at "hp")), ?_⟩
  | refine ⟨_, _, _, _, rfl, rfl, by walk_at "hp", rfl, ?_⟩
  | refine ⟨rfl, ?_⟩)
local macro_rules | `(tactic| walk_at "rd") => `(tactic| repeat walk_at "rd1")
local macro_rules | `(tactic| walk_at "isi") => `(tactic| first
  | refine ⟨_, _, _, _, true, rfl, .ty _, .base (.int _), kit_ty (by decide +kernel), ?_⟩
  | refine ⟨_, _, _, _, false, rfl, .ty _, .base (.int _), kit_ty (by decide +kernel), ?_⟩
  | refine ⟨_, _, _, _, true, rfl, .ty _, .base (.tup (by walk_at "hp")), kit_ty (by decide +kernel), ?_⟩
  | refine ⟨_, _, _, _, false, rfl, .ty _, .base (.tup (by walk_at "hp")), kit_ty (by decide +kernel), ?_⟩
  | refine ⟨_, _, _, _, true, rfl, .ty _, .base (.lst (by walk_at "hp")), kit_ty (by decide +kernel), ?_⟩
  | refine ⟨_, _, _, _, false, rfl, .ty _, .base (.lst (by walk_at "hp")), kit_ty (by decide +kernel), ?_⟩
  | refine ⟨_, _, _, _, true, rfl, .ty _, .base (.dK (by walk_at "hp")), kit_ty (by decide +kernel), ?_⟩
  | refine ⟨_, _, _, _, false, rfl, .ty _, .base (.dK (by walk_at "hp")), kit_ty (by decide +kernel), ?_⟩
  | refine ⟨_, _, _, _, true, rfl, .ty _, .base (.str _), kit_ty (by decide +kernel), ?_⟩
  | refine ⟨_, _, _, _, false, rfl, .ty _, .base (.str _), kit_ty (by decide +kernel), ?_⟩
  | refine ⟨_, _, _, _, true, rfl, .ty _, .base (.bl _), kit_ty (by decide +kernel), ?_⟩
  | refine ⟨_, _, _, _, false, rfl, .ty _, .base (.bl _), kit_ty (by decide +kernel), ?_⟩
  | refine ⟨_, _, _, _, true, rfl, .ty _, .base (.non), kit_ty (by decide +kernel), ?_⟩
  | refine ⟨_, _, _, _, false, rfl, .ty _, .base (.non), kit_ty (by decide +kernel), ?_⟩)
local macro_rules | `(tactic| walk_at "sl1") => `(tactic| (refine ⟨_, _, rfl, SqT.of (by walk_at "hp"), sl1c _ _, ?_⟩; rw [cut1]))
local macro_rules | `(tactic| walk_at "ri") => `(tactic| repeat (first | walk_at "rd1" | walk_at "isi"))

def topS (i : Nat) : Stmt := PySem.Challenge.pw_joinedends_k12_malformed_texts.main.body.getD i (.Pass ⟨0, 0, 0, 0⟩)
abbrev s_u_law_state : Stmt := topS 34
theorem sc_u_law_state : FnScope ["script"] ["script"] (defScope s_u_law_state) := ⟨rfl, rfl, rfl, by decide +kernel, rfl, by decide +kernel, by decide +kernel⟩
abbrev s_u_law_mix : Stmt := topS 32
theorem sc_u_law_mix : FnScope ["cell", "number"] ["cell"] (defScope s_u_law_mix) := ⟨rfl, rfl, rfl, by decide +kernel, rfl, by decide +kernel, by decide +kernel⟩
abbrev s_u_law_number : Stmt := topS 33
theorem sc_u_law_number : FnScope ["cell", "first"] ["cell"] (defScope s_u_law_number) := ⟨rfl, rfl, rfl, by decide +kernel, rfl, by decide +kernel, by decide +kernel⟩
abbrev s_u_law_draw : Stmt := topS 35
theorem sc_u_law_draw : FnScope ["state", "many", "value"] ["state", "many"] (defScope s_u_law_draw) := ⟨rfl, rfl, rfl, by decide +kernel, rfl, by decide +kernel, by decide +kernel⟩
abbrev s_u_law_word : Stmt := topS 36
theorem sc_u_law_word : FnScope ["state", "many", "letters", "k"] ["state", "many"] (defScope s_u_law_word) := ⟨rfl, rfl, rfl, by decide +kernel, rfl, by decide +kernel, by decide +kernel⟩
abbrev s_u_law_names : Stmt := topS 37
theorem sc_u_law_names : FnScope ["state", "count", "letters", "before", "behind", "first", "k"] ["state", "count"] (defScope s_u_law_names) := ⟨rfl, rfl, rfl, by decide +kernel, rfl, by decide +kernel, by decide +kernel⟩
abbrev s_u_law_operations : Stmt := topS 38
theorem sc_u_law_operations : FnScope ["state", "names", "arities", "k"] ["state"] (defScope s_u_law_operations) := ⟨rfl, rfl, rfl, by decide +kernel, rfl, by decide +kernel, by decide +kernel⟩
abbrev s_u_law_leaf : Stmt := topS 39
theorem sc_u_law_leaf : FnScope ["state", "operations", "count"] ["state", "operations", "count"] (defScope s_u_law_leaf) := ⟨rfl, rfl, rfl, by decide +kernel, rfl, by decide +kernel, by decide +kernel⟩
abbrev s_u_law_term : Stmt := topS 40
theorem sc_u_law_term : FnScope ["state", "operations", "count", "height", "name", "arity", "term", "k"] ["state", "operations", "count", "height"] (defScope s_u_law_term) := ⟨rfl, rfl, rfl, by decide +kernel, rfl, by decide +kernel, by decide +kernel⟩
abbrev s_u_law_spaced : Stmt := topS 42
theorem sc_u_law_spaced : FnScope ["state", "tokens", "text", "token"] ["state", "tokens"] (defScope s_u_law_spaced) := ⟨rfl, rfl, rfl, by decide +kernel, rfl, by decide +kernel, by decide +kernel⟩
abbrev s_u_law_text : Stmt := topS 44
theorem sc_u_law_text : FnScope ["state", "tokens"] ["state", "tokens"] (defScope s_u_law_text) := ⟨rfl, rfl, rfl, by decide +kernel, rfl, by decide +kernel, by decide +kernel⟩
abbrev s_u_law_bad : Stmt := topS 45
theorem sc_u_law_bad : FnScope ["state", "words"] ["state"] (defScope s_u_law_bad) := ⟨rfl, rfl, rfl, by decide +kernel, rfl, by decide +kernel, by decide +kernel⟩
abbrev s_u_law_spoilt : Stmt := topS 46
theorem sc_u_law_spoilt : FnScope ["state", "tokens", "kind", "at", "text", "words"] ["state", "tokens"] (defScope s_u_law_spoilt) := ⟨rfl, rfl, rfl, by decide +kernel, rfl, by decide +kernel, by decide +kernel⟩
abbrev s_u_law_tokens : Stmt := topS 41
theorem sc_u_law_tokens : FnScope ["term", "found", "k"] ["term"] (defScope s_u_law_tokens) := ⟨rfl, rfl, rfl, by decide +kernel, rfl, by decide +kernel, by decide +kernel⟩
abbrev s_Malformed___init : Stmt := inClass (topS 2) 0
theorem sc_Malformed___init : FnScope ["self", "index"] ["self", "index"] (defScope s_Malformed___init) := ⟨rfl, rfl, rfl, by decide +kernel, rfl, by decide +kernel, by decide +kernel⟩
abbrev s_Tokens_take : Stmt := inClass (topS 28) 2
theorem sc_Tokens_take : FnScope ["self", "kinds", "kind", "word", "index"] ["self", "kinds"] (defScope s_Tokens_take) := ⟨rfl, rfl, rfl, by decide +kernel, rfl, by decide +kernel, by decide +kernel⟩
abbrev s_Tokens_kind : Stmt := inClass (topS 28) 1
theorem sc_Tokens_kind : FnScope ["self"] ["self"] (defScope s_Tokens_kind) := ⟨rfl, rfl, rfl, by decide +kernel, rfl, by decide +kernel, by decide +kernel⟩
abbrev s_u_read_part : Stmt := topS 27
theorem sc_u_read_part : FnScope ["tokens", "kind", "word", "parts"] ["tokens"] (defScope s_u_read_part) := ⟨rfl, rfl, rfl, by decide +kernel, rfl, by decide +kernel, by decide +kernel⟩
abbrev s_profile : Stmt := topS 5
theorem sc_profile : FnScope ["term", "total", "level", "spots", "row", "below", "part", "count", "_"] ["term"] (defScope s_profile) := ⟨rfl, rfl, rfl, by decide +kernel, rfl, by decide +kernel, by decide +kernel⟩
abbrev s_measure : Stmt := topS 6
theorem sc_measure : FnScope ["term", "total", "deepest", "_"] ["term"] (defScope s_measure) := ⟨rfl, rfl, rfl, by decide +kernel, rfl, by decide +kernel, by decide +kernel⟩
abbrev s_is_within : Stmt := topS 10
theorem sc_is_within : FnScope ["total", "deepest"] ["total", "deepest"] (defScope s_is_within) := ⟨rfl, rfl, rfl, by decide +kernel, rfl, by decide +kernel, by decide +kernel⟩
abbrev s_check_size : Stmt := topS 11
theorem sc_check_size : FnScope ["term", "total", "deepest"] ["term"] (defScope s_check_size) := ⟨rfl, rfl, rfl, by decide +kernel, rfl, by decide +kernel, by decide +kernel⟩
abbrev s_is_name : Stmt := topS 16
theorem sc_is_name : FnScope ["text", "letter"] ["text"] (defScope s_is_name) := ⟨rfl, rfl, rfl, by decide +kernel, rfl, by decide +kernel, by decide +kernel⟩
abbrev s_u_kind_of_word : Stmt := topS 30
theorem sc_u_kind_of_word : FnScope ["word", "digits"] ["word"] (defScope s_u_kind_of_word) := ⟨rfl, rfl, rfl, by decide +kernel, rfl, by decide +kernel, by decide +kernel⟩
abbrev s_u_split : Stmt := topS 29
theorem sc_u_split : FnScope ["text", "rows", "at", "start", "word"] ["text"] (defScope s_u_split) := ⟨rfl, rfl, rfl, by decide +kernel, rfl, by decide +kernel, by decide +kernel⟩
abbrev s_Tokens___init : Stmt := inClass (topS 28) 0
theorem sc_Tokens___init : FnScope ["self", "text"] ["self", "text"] (defScope s_Tokens___init) := ⟨rfl, rfl, rfl, by decide +kernel, rfl, by decide +kernel, by decide +kernel⟩
abbrev s_read_equation : Stmt := topS 26
theorem sc_read_equation : FnScope ["text", "tokens", "left", "right"] ["text"] (defScope s_read_equation) := ⟨rfl, rfl, rfl, by decide +kernel, rfl, by decide +kernel, by decide +kernel⟩
abbrev s_read_term : Stmt := topS 25
theorem sc_read_term : FnScope ["text", "tokens", "term"] ["text"] (defScope s_read_term) := ⟨rfl, rfl, rfl, by decide +kernel, rfl, by decide +kernel, by decide +kernel⟩
abbrev s_u_law_is_integer : Stmt := topS 43
theorem sc_u_law_is_integer : FnScope ["actual"] ["actual"] (defScope s_u_law_is_integer) := ⟨rfl, rfl, rfl, by decide +kernel, rfl, by decide +kernel, by decide +kernel⟩
abbrev s_u_law_told : Stmt := topS 47
theorem sc_u_law_told : FnScope ["text", "is_equation", "e"] ["text", "is_equation"] (defScope s_u_law_told) := ⟨rfl, rfl, rfl, by decide +kernel, rfl, by decide +kernel, by decide +kernel⟩
abbrev s_law : Stmt := topS 48
theorem sc_law : FnScope ["script", "state", "operations", "term", "text", "index", "other"] ["script"] (defScope s_law) := ⟨rfl, rfl, rfl, by decide +kernel, rfl, by decide +kernel, by decide +kernel⟩
structure Ad where
  a_u_law_state : Addr
  d_u_law_state : FuncData
  a_u_law_mix : Addr
  d_u_law_mix : FuncData
  a_u_law_number : Addr
  d_u_law_number : FuncData
  a_u_law_draw : Addr
  d_u_law_draw : FuncData
  a_u_law_word : Addr
  d_u_law_word : FuncData
  a_u_law_names : Addr
  d_u_law_names : FuncData
  a_u_law_operations : Addr
  d_u_law_operations : FuncData
  a_u_law_leaf : Addr
  d_u_law_leaf : FuncData
  a_u_law_term : Addr
  d_u_law_term : FuncData
  a_u_law_spaced : Addr
  d_u_law_spaced : FuncData
  a_u_law_text : Addr
  d_u_law_text : FuncData
  a_u_law_bad : Addr
  d_u_law_bad : FuncData
  a_u_law_spoilt : Addr
  d_u_law_spoilt : FuncData
  a_u_law_tokens : Addr
  d_u_law_tokens : FuncData
  a_Malformed___init : Addr
  d_Malformed___init : FuncData
  a_Tokens_take : Addr
  d_Tokens_take : FuncData
  a_Tokens_kind : Addr
  d_Tokens_kind : FuncData
  a_u_read_part : Addr
  d_u_read_part : FuncData
  a_profile : Addr
  d_profile : FuncData
  a_measure : Addr
  d_measure : FuncData
  a_is_within : Addr
  d_is_within : FuncData
  a_check_size : Addr
  d_check_size : FuncData
  a_is_name : Addr
  d_is_name : FuncData
  a_u_kind_of_word : Addr
  d_u_kind_of_word : FuncData
  a_u_split : Addr
  d_u_split : FuncData
  a_Tokens___init : Addr
  d_Tokens___init : FuncData
  a_read_equation : Addr
  d_read_equation : FuncData
  a_read_term : Addr
  d_read_term : FuncData
  a_u_law_is_integer : Addr
  d_u_law_is_integer : FuncData
  a_u_law_told : Addr
  d_u_law_told : FuncData
  a_law : Addr
  d_law : FuncData
  c_HallError : Addr
  c_Malformed : Addr
  c_TooLarge : Addr
  c_Tokens : Addr
structure Tx (K : PySem.W.Frag) (mg : Str → Option Value) (A : Ad) : Prop where
  F_u_law_state : Fun K "_law_state" "_law_state" s_u_law_state A.a_u_law_state A.d_u_law_state
  b_u_law_state : Binds K A.d_u_law_state ["script"] []
  m_u_law_state : mg "_law_state" = some (.ref A.a_u_law_state)
  F_u_law_mix : Fun K "_law_mix" "_law_mix" s_u_law_mix A.a_u_law_mix A.d_u_law_mix
  b_u_law_mix : Binds K A.d_u_law_mix ["cell"] []
  m_u_law_mix : mg "_law_mix" = some (.ref A.a_u_law_mix)
  F_u_law_number : Fun K "_law_number" "_law_number" s_u_law_number A.a_u_law_number A.d_u_law_number
  b_u_law_number : Binds K A.d_u_law_number ["cell"] []
  m_u_law_number : mg "_law_number" = some (.ref A.a_u_law_number)
  F_u_law_draw : Fun K "_law_draw" "_law_draw" s_u_law_draw A.a_u_law_draw A.d_u_law_draw
  b_u_law_draw : Binds K A.d_u_law_draw ["state", "many"] []
  m_u_law_draw : mg "_law_draw" = some (.ref A.a_u_law_draw)
  F_u_law_word : Fun K "_law_word" "_law_word" s_u_law_word A.a_u_law_word A.d_u_law_word
  b_u_law_word : Binds K A.d_u_law_word ["state", "many"] []
  m_u_law_word : mg "_law_word" = some (.ref A.a_u_law_word)
  F_u_law_names : Fun K "_law_names" "_law_names" s_u_law_names A.a_u_law_names A.d_u_law_names
  b_u_law_names : Binds K A.d_u_law_names ["state", "count"] []
  m_u_law_names : mg "_law_names" = some (.ref A.a_u_law_names)
  F_u_law_operations : Fun K "_law_operations" "_law_operations" s_u_law_operations A.a_u_law_operations A.d_u_law_operations
  b_u_law_operations : Binds K A.d_u_law_operations ["state"] []
  m_u_law_operations : mg "_law_operations" = some (.ref A.a_u_law_operations)
  F_u_law_leaf : Fun K "_law_leaf" "_law_leaf" s_u_law_leaf A.a_u_law_leaf A.d_u_law_leaf
  b_u_law_leaf : Binds K A.d_u_law_leaf ["state", "operations", "count"] []
  m_u_law_leaf : mg "_law_leaf" = some (.ref A.a_u_law_leaf)
  F_u_law_term : Fun K "_law_term" "_law_term" s_u_law_term A.a_u_law_term A.d_u_law_term
  b_u_law_term : Binds K A.d_u_law_term ["state", "operations", "count", "height"] []
  m_u_law_term : mg "_law_term" = some (.ref A.a_u_law_term)
  F_u_law_spaced : Fun K "_law_spaced" "_law_spaced" s_u_law_spaced A.a_u_law_spaced A.d_u_law_spaced
  b_u_law_spaced : Binds K A.d_u_law_spaced ["state", "tokens"] []
  m_u_law_spaced : mg "_law_spaced" = some (.ref A.a_u_law_spaced)
  F_u_law_text : Fun K "_law_text" "_law_text" s_u_law_text A.a_u_law_text A.d_u_law_text
  b_u_law_text : Binds K A.d_u_law_text ["state", "tokens"] []
  m_u_law_text : mg "_law_text" = some (.ref A.a_u_law_text)
  F_u_law_bad : Fun K "_law_bad" "_law_bad" s_u_law_bad A.a_u_law_bad A.d_u_law_bad
  b_u_law_bad : Binds K A.d_u_law_bad ["state"] []
  m_u_law_bad : mg "_law_bad" = some (.ref A.a_u_law_bad)
  F_u_law_spoilt : Fun K "_law_spoilt" "_law_spoilt" s_u_law_spoilt A.a_u_law_spoilt A.d_u_law_spoilt
  b_u_law_spoilt : Binds K A.d_u_law_spoilt ["state", "tokens"] []
  m_u_law_spoilt : mg "_law_spoilt" = some (.ref A.a_u_law_spoilt)
  F_u_law_tokens : Fun K "_law_tokens" "_law_tokens" s_u_law_tokens A.a_u_law_tokens A.d_u_law_tokens
  b_u_law_tokens : Binds K A.d_u_law_tokens ["term"] []
  m_u_law_tokens : mg "_law_tokens" = some (.ref A.a_u_law_tokens)
  F_Malformed___init : Fun K "__init__" "Malformed.__init__" s_Malformed___init A.a_Malformed___init A.d_Malformed___init
  b_Malformed___init : Binds K A.d_Malformed___init ["self", "index"] []
  F_Tokens_take : Fun K "take" "Tokens.take" s_Tokens_take A.a_Tokens_take A.d_Tokens_take
  b_Tokens_take : Binds K A.d_Tokens_take ["self", "kinds"] []
  F_Tokens_kind : Fun K "kind" "Tokens.kind" s_Tokens_kind A.a_Tokens_kind A.d_Tokens_kind
  b_Tokens_kind : Binds K A.d_Tokens_kind ["self"] []
  F_u_read_part : Fun K "_read_part" "_read_part" s_u_read_part A.a_u_read_part A.d_u_read_part
  b_u_read_part : Binds K A.d_u_read_part ["tokens"] []
  m_u_read_part : mg "_read_part" = some (.ref A.a_u_read_part)
  F_profile : Fun K "profile" "profile" s_profile A.a_profile A.d_profile
  b_profile : Binds K A.d_profile ["term"] []
  m_profile : mg "profile" = some (.ref A.a_profile)
  F_measure : Fun K "measure" "measure" s_measure A.a_measure A.d_measure
  b_measure : Binds K A.d_measure ["term"] []
  m_measure : mg "measure" = some (.ref A.a_measure)
  F_is_within : Fun K "is_within" "is_within" s_is_within A.a_is_within A.d_is_within
  b_is_within : Binds K A.d_is_within ["total", "deepest"] []
  m_is_within : mg "is_within" = some (.ref A.a_is_within)
  F_check_size : Fun K "check_size" "check_size" s_check_size A.a_check_size A.d_check_size
  b_check_size : Binds K A.d_check_size ["term"] []
  m_check_size : mg "check_size" = some (.ref A.a_check_size)
  F_is_name : Fun K "is_name" "is_name" s_is_name A.a_is_name A.d_is_name
  b_is_name : Binds K A.d_is_name ["text"] []
  m_is_name : mg "is_name" = some (.ref A.a_is_name)
  F_u_kind_of_word : Fun K "_kind_of_word" "_kind_of_word" s_u_kind_of_word A.a_u_kind_of_word A.d_u_kind_of_word
  b_u_kind_of_word : Binds K A.d_u_kind_of_word ["word"] []
  m_u_kind_of_word : mg "_kind_of_word" = some (.ref A.a_u_kind_of_word)
  F_u_split : Fun K "_split" "_split" s_u_split A.a_u_split A.d_u_split
  b_u_split : Binds K A.d_u_split ["text"] []
  m_u_split : mg "_split" = some (.ref A.a_u_split)
  F_Tokens___init : Fun K "__init__" "Tokens.__init__" s_Tokens___init A.a_Tokens___init A.d_Tokens___init
  b_Tokens___init : Binds K A.d_Tokens___init ["self", "text"] []
  F_read_equation : Fun K "read_equation" "read_equation" s_read_equation A.a_read_equation A.d_read_equation
  b_read_equation : Binds K A.d_read_equation ["text"] []
  m_read_equation : mg "read_equation" = some (.ref A.a_read_equation)
  F_read_term : Fun K "read_term" "read_term" s_read_term A.a_read_term A.d_read_term
  b_read_term : Binds K A.d_read_term ["text"] []
  m_read_term : mg "read_term" = some (.ref A.a_read_term)
  F_u_law_is_integer : Fun K "_law_is_integer" "_law_is_integer" s_u_law_is_integer A.a_u_law_is_integer A.d_u_law_is_integer
  b_u_law_is_integer : Binds K A.d_u_law_is_integer ["actual"] []
  m_u_law_is_integer : mg "_law_is_integer" = some (.ref A.a_u_law_is_integer)
  F_u_law_told : Fun K "_law_told" "_law_told" s_u_law_told A.a_u_law_told A.d_u_law_told
  b_u_law_told : Binds K A.d_u_law_told ["text", "is_equation"] []
  m_u_law_told : mg "_law_told" = some (.ref A.a_u_law_told)
  F_law : Fun K "law" "law" s_law A.a_law A.d_law
  b_law : Binds K A.d_law ["script"] []
  m_law : mg "law" = some (.ref A.a_law)
  n_ValueError : mg "ValueError" = none
  n_all : mg "all" = none
  n_bool : mg "bool" = none
  n_int : mg "int" = none
  n_isinstance : mg "isinstance" = none
  n_len : mg "len" = none
  n_list : mg "list" = none
  n_range : mg "range" = none
  n_str : mg "str" = none
  n_tuple : mg "tuple" = none
  c_MAX_SIZE : ∃ t, mg "MAX_SIZE" = some (.int 400 t)
  c_MAX_DEPTH : ∃ t, mg "MAX_DEPTH" = some (.int 30 t)
  c_MAX_ARITY : ∃ t, mg "MAX_ARITY" = some (.int 3 t)
  c_MAX_NAME : ∃ t, mg "MAX_NAME" = some (.int 8 t)
  c_LETTERS : ∃ t, mg "LETTERS" = some (.str "abcdefghijklmnopqrstuvwxyz" t)
  c_MAX_VARIABLE : ∃ t, mg "MAX_VARIABLE" = some (.int 19 t)
  c_WORD_CHARACTERS : ∃ t, mg "WORD_CHARACTERS" = some (.str "abcdefghijklmnopqrstuvwxyzABCDEFGHIJKLMNOPQRSTUVWXYZ0123456789" t)
  c_SIGNS : ∃ t, mg "SIGNS" = some (.str "(),=" t)
  c_NAME : ∃ t, mg "NAME" = some (.str "name" t)
  c_VARIABLE : ∃ t, mg "VARIABLE" = some (.str "variable" t)
  c_END : ∃ t, mg "END" = some (.str "end" t)
  c_UNREADABLE : ∃ t, mg "UNREADABLE" = some (.str "unreadable" t)
  E_HallError : ErrC K mg "HallError" A.c_HallError
  E_Malformed : ErrI K mg "Malformed" A.c_Malformed A.a_Malformed___init
  E_TooLarge : ErrC K mg "TooLarge" A.c_TooLarge
  K_Tokens : Cls K A.c_Tokens
  M_Tokens : Mk K A.c_Tokens A.a_Tokens___init
  g_Tokens : mg "Tokens" = some (.ref A.c_Tokens)
  N_Tokens__rows : NoAttr K A.c_Tokens "_rows"
  N_Tokens__at : NoAttr K A.c_Tokens "_at"
  H_Tokens_take : Meth K A.c_Tokens "take" A.a_Tokens_take
  H_Tokens_kind : Meth K A.c_Tokens "kind" A.a_Tokens_kind
  nf_index : PySem.W.findIn K (.ref A.c_Malformed) "index" = some none
  kit_Malformed_HallError : PySem.W.kitOne K (.ref A.c_Malformed) (.ref A.c_HallError) = some true
  kit_Malformed_ValueError : PySem.W.kitOne K (.ref A.c_Malformed) (.type "ValueError") = some true
section
variable {P : Program} {w : World} {K : PySem.W.Frag} {mg : Str → Option Value} {base : Heap} {A : Ad}
/-! _law_state -/
def sp_u_law_state (K : PySem.W.Frag) : Sp := fun vs H Q _ => ∃ (a : Addr) (ns : List Int), vs = [.ref a] ∧ SqL K H a (ns.map V.int) ∧ ns.length ≤ 63 ∧ ∀ s l H', Same H H' → H s = none → H l = none → St H' s l → Q (.ref s) H'
theorem ok_u_law_state (T : Tx K mg A) : FnOk P w K mg base CX0 1 A.a_u_law_state A.d_u_law_state ["script"] (sp_u_law_state K) := by
  refine T.F_u_law_state.ok sc_u_law_state (fun vs H Q E h => ?_) (fun cdv Ar outer s0 H vs Q E hr h => ?_)
  · obtain ⟨a, ns, rfl, _⟩ := h; rfl
  obtain ⟨a, ns, rfl, hS, h63, q⟩ := h
  refine ⟨_, (pss_one (ps_ret (pe_lst (pa_cons pe_int (pa_cons (pe_callTy (r := rListS K) j_list (by rfl) T.n_list boot_list (pa_cons (pv 0) pa_nil)) (pa_cons pe_int (pa_cons (pe_op op_add pe_int (pe_callB (r := rLenS K) j_len (by rfl) T.n_len PySem.boot_len (pa_cons (pv 0) pa_nil))) pa_nil))))))), ?_⟩
  walk_at "rd"
  refine ⟨a, _, rfl, .inl hS, ?_⟩
  first | intro l n1 | refine fun l n1 => ?_
  generalize ehn : upd H l _ = H1
  have s1 := J.al_same n1 ehn
  have h1 := J.al_at ehn
  clear ehn
  walk_at "rd"
  refine ⟨a, _, rfl, .inl (s1.seq hS), ?_⟩
  walk_at "rd"
  refine ⟨by show 4 ≤ sizeLine; decide, ?_⟩
  first | intro s n2 | refine fun s n2 => ?_
  generalize ehn : upd H1 s _ = H2
  have s2 := J.al_same n2 ehn
  have h2 := J.al_at ehn
  clear ehn
  refine q s l H2 (s1.trans s2) (s1.free n2) n1 ⟨0, 0, _, ns, h2, s2 _ _ h1, Int.le_refl _, Int.natCast_nonneg _, Int.le_refl _, ?_, ?_, h63⟩
  · rw [List.length_map]; omega
  · rw [List.length_map]; omega

/-! _law_mix -/
def sp_u_law_mix : Sp := fun vs H Q _ => ∃ c : Int, vs = [.int c] ∧ ∀ r : Int, 0 ≤ r → r < 2147483647 → Q (.int r) H
theorem ok_u_law_mix (T : Tx K mg A) : FnOk P w K mg base CX0 (1) A.a_u_law_mix A.d_u_law_mix ["cell"] sp_u_law_mix := by
  refine T.F_u_law_mix.ok sc_u_law_mix (fun vs H Q E h => ?_) (fun cdv Ar outer s0 H vs Q E hr h => ?_)
  · obtain ⟨c, rfl, _⟩ := h; rfl
  obtain ⟨c, rfl, q⟩ := h
  refine ⟨_, (pss_cons (ps_set (i := 1) sc_u_law_mix.nd rfl (Or.inl rfl) (pe_op op_mod (pe_callTy call_int1 (by rfl) T.n_int boot_int (pa_cons (pv 0) pa_nil)) pe_int))
    (pss_cons (ps_set (i := 1) sc_u_law_mix.nd rfl (Or.inl rfl) (pe_op op_mod (pe_callTy call_int1 (by rfl) T.n_int boot_int (pa_cons (pe_op op_add (pe_op op_mul (pv 1) pe_int) pe_int) pa_nil)) pe_int))
    (pss_one (ps_ret (pe_op op_mod (pe_callTy call_int1 (by rfl) T.n_int boot_int (pa_cons (pe_op op_add (pe_op op_mul (pv 1) pe_int) pe_int) pa_nil)) pe_int))))), ?_⟩
  walk_at "rd"
  refine q _ (Int.emod_nonneg _ (by decide)) ?_
  show _ % _ < _
  omega

/-! _law_number -/
def sp_u_law_number : Sp := fun vs H Q _ => ∃ c : Int, vs = [.int c] ∧ ∀ r : Int, 0 ≤ r → Q (.int r) H
theorem ok_u_law_number (T : Tx K mg A) : FnOk P w K mg base CX0 (2) A.a_u_law_number A.d_u_law_number ["cell"] sp_u_law_number := by
  have G_u_law_mix := ok_u_law_mix (P := P) (w := w) (base := base) T
  refine T.F_u_law_number.ok sc_u_law_number (fun vs H Q E h => ?_) (fun cdv Ar outer s0 H vs Q E hr h => ?_)
  · obtain ⟨c, rfl, _⟩ := h; rfl
  obtain ⟨c, rfl, q⟩ := h
  refine ⟨_, (pss_cons (ps_if (pt_cmpR op_ge (pv 0) (pe_op op_pow pe_int pe_int) (nomark _)) (pss_one (ps_ret (pv 0))) pss_nil)
    (pss_cons (ps_set (i := 1) sc_u_law_number.nd rfl (Or.inl rfl) (pe_call G_u_law_mix (hr.mono (by omega)) rfl T.m_u_law_mix T.F_u_law_mix.kp T.b_u_law_mix .nil pass0 (pa_cons (pv 0) pa_nil)))
    (pss_one (ps_ret (pe_op op_add (pe_op op_mul (pv 1) pe_int) (pe_call G_u_law_mix (hr.mono (by omega)) rfl T.m_u_law_mix T.F_u_law_mix.kp T.b_u_law_mix .nil pass0 (pa_cons (pe_op op_add (pv 1) (pv 0)) pa_nil))))))), ?_⟩
  walk_at "rd"
  refine ite2 (fun e => ?_) (fun e => ?_)
  · walk_at "rd"
    have e := of_decide_eq_true e
    refine q _ (Int.le_trans ?_ e)
    decide
  · walk_at "rd"
    intro r1 r10 r11
    walk_at "rd"
    intro r2 r20 r21
    walk_at "rd"
    refine q _ ?_
    show 0 ≤ r1 * 2147483629 + r2
    omega

/-! _law_draw -/
def sp_u_law_draw : Sp := fun vs H Q _ => ∃ (s l : Addr) (m : Int), vs = [.ref s, .int m] ∧ St H s l ∧ 1 ≤ m ∧ m < 1073741824 ∧ ∀ r H', 0 ≤ r → r < m → But s H H' → St H' s l → Q (.int r) H'
theorem ok_u_law_draw (T : Tx K mg A) : FnOk P w K mg base CX0 (3) A.a_u_law_draw A.d_u_law_draw ["state", "many"] sp_u_law_draw := by
  have G_u_law_number := ok_u_law_number (P := P) (w := w) (base := base) T
  refine T.F_u_law_draw.ok sc_u_law_draw (fun vs H Q E h => ?_) (fun cdv Ar outer s0 H vs Q E hr h => ?_)
  · obtain ⟨s, l, m, rfl, _⟩ := h; rfl
  obtain ⟨s, l, m, rfl, hst, m1, m2, q⟩ := h
  refine ⟨_, (pss_cons (ps_if (PW.pt (pw_and (pt_cmpR op_lt (pe_ix (r := rIxL K) ix_list (pv 0) pe_int (fun _ _ => rfl)) (pv 1) (nomark _)) (pw_and1 (pt_cmpR op_lt (pe_ix (r := rIxL K) ix_list (pv 0) pe_int (fun _ _ => rfl)) (pe_callB (r := rLenS K) j_len (by rfl) T.n_len PySem.boot_len (pa_cons (pe_ix (r := rIxL K) ix_list (pv 0) pe_int (fun _ _ => rfl)) pa_nil)) (nomark _))))) (pss_cons (ps_asg (pe_call G_u_law_number (hr.mono (by omega)) rfl T.m_u_law_number T.F_u_law_number.kp T.b_u_law_number .nil pass0 (pa_cons (pe_ix (r := rIxL K) ix_list (pe_ix (r := rIxL K) ix_list (pv 0) pe_int (fun _ _ => rfl)) (pe_ix (r := rIxL K) ix_list (pv 0) pe_int (fun _ _ => rfl)) (fun _ _ => rfl)) pa_nil)) (pg_sub (pv 0) pe_int set_list))
    (pss_one (ps_asg (pe_op op_add (pe_ix (r := rIxL K) ix_list (pv 0) pe_int (fun _ _ => rfl)) pe_int) (pg_sub (pv 0) pe_int set_list)))) pss_nil)
    (pss_cons (ps_if (pt_cmpR op_eq (pe_ix (r := rIxL K) ix_list (pv 0) pe_int (fun _ _ => rfl)) pe_int (nomark _)) (pss_cons (ps_asg (pe_op op_mod (pe_callTy call_int1 (by rfl) T.n_int boot_int (pa_cons (pe_op op_add (pe_op op_mul (pe_ix (r := rIxL K) ix_list (pv 0) pe_int (fun _ _ => rfl)) pe_int) pe_int) pa_nil)) pe_int) (pg_sub (pv 0) pe_int set_list))
    (pss_one (ps_ret (pe_op op_modN (pe_callTy call_int1 (by rfl) T.n_int boot_int (pa_cons (pe_op op_fdiv (pe_ix (r := rIxL K) ix_list (pv 0) pe_int (fun _ _ => rfl)) pe_int) pa_nil)) (pv 1))))) pss_nil)
    (pss_cons (ps_set (i := 2) sc_u_law_draw.nd rfl (Or.inl rfl) (pe_op op_modN (pe_callTy call_int1 (by rfl) T.n_int boot_int (pa_cons (pe_ix (r := rIxL K) ix_list (pv 0) pe_int (fun _ _ => rfl)) pa_nil)) (pv 1)))
    (pss_cons (ps_asg (pe_op op_fdivN (pe_ix (r := rIxL K) ix_list (pv 0) pe_int (fun _ _ => rfl)) (pv 1)) (pg_sub (pv 0) pe_int set_list))
    (pss_one (ps_ret (pv 2))))))), ?_⟩
  obtain ⟨v, at0, sd, ns, h1, h2, a0, a1, v0, sd0, sd1, h63⟩ := hst
  have ls : l ≠ s := St.ne_list h1 h2
  refine seq_join (fun σ' H' => σ' = [some (.ref s), some (.int m), none] ∧ But s H H' ∧ ∃ v at0 sd : Int, H' s = some (.lst [.int v, .ref l, .int at0, .int sd]) ∧ H' l = some (.lst (ns.map V.int)) ∧ 0 ≤ at0 ∧ at0 ≤ (ns.length : Int) ∧ 0 ≤ v ∧ 0 ≤ sd ∧ sd < 2147483648) ?_ (fun N cont => ?_)
  · rintro σ' H' ⟨rfl, b1, v, at0, sd, h1, h2, a0, a1, v0, sd0, sd1⟩
    refine seq_join (fun σ' H'' => σ' = [some (.ref s), some (.int m), none] ∧ H'' = H') ?_ (fun N cont => ?_)
    · rintro σ' H'' ⟨rfl, rfl⟩
      walk_at "rd"
      refine q _ _ (fmod_0 m1) (fmod_lt m1) (b1.trans (but_upd _)) ⟨_, at0, sd, ns, upd_same, ?_, a0, a1, ?_, sd0, sd1, h63⟩
      · rw [upd_ne ls]; exact h2
      · exact Int.fdiv_nonneg v0 (by omega)
    · walk_at "rd"
      refine ite2 (fun e => ?_) (fun e => cont _ _ ⟨rfl, rfl⟩)
      walk_at "rd"
      refine q _ _ (fmod_0 m1) (fmod_lt m1) (b1.trans (but_upd _)) ⟨_, at0, _, ns, upd_same, ?_, a0, a1, v0, ?_, ?_, h63⟩
      · rw [upd_ne ls]; exact h2
      · exact Int.emod_nonneg _ (by decide)
      · show (sd * 48271 + 7) % 2147483647 < _
        omega
  · walk_at "rd"
    refine ite2 (fun e => ?_) (fun e => ?_)
    · walk_at "rd"
      refine ite2 (fun e => ?_) (fun e => ?_)
      · have e := of_decide_eq_true e
        rw [List.length_map] at e
        obtain ⟨n, gat⟩ := at_int a0 e
        walk_at "rd"
        intro r r0
        walk_at "rd"

        refine cont _ _ ⟨rfl, (but_upd _).trans (but_upd _), _, _, sd, upd_same, ?_, ?_, ?_, r0, sd0, sd1⟩
        · rw [upd_ne ls, upd_ne ls]; exact h2
        · show 0 ≤ at0 + 1
          omega
        · show at0 + 1 ≤ _
          omega
      · exact cont _ _ ⟨rfl, But.refl _ _, v, at0, sd, h1, h2, a0, a1, v0, sd0, sd1⟩
    · exact cont _ _ ⟨rfl, But.refl _ _, v, at0, sd, h1, h2, a0, a1, v0, sd0, sd1⟩

/-! _law_word -/
def sp_u_law_word : Sp := fun vs H Q _ => ∃ (s l : Addr) (m : Nat), vs = [.ref s, .int (m : Int)] ∧ St H s l ∧ m ≤ 1000 ∧ ∀ z H', But s H H' → St H' s l → z.length = m → Low z → Q (.str z) H'
theorem ok_u_law_word (T : Tx K mg A) : FnOk P w K mg base CX0 (4) A.a_u_law_word A.d_u_law_word ["state", "many"] sp_u_law_word := by
  have G_u_law_draw := ok_u_law_draw (P := P) (w := w) (base := base) T
  refine T.F_u_law_word.ok sc_u_law_word (fun vs H Q E h => ?_) (fun cdv Ar outer s0 H vs Q E hr h => ?_)
  · obtain ⟨s, l, m, rfl, _⟩ := h; rfl
  obtain ⟨s, l, m, rfl, hst, hm, q⟩ := h
  refine ⟨_, (pss_cons (ps_set (i := 2) sc_u_law_word.nd rfl (Or.inr rfl) pe_str)
    (pss_one (ps_ret (pe_join pe_str (pe_lc (own := [("k", 3)]) (by rfl) sc_u_law_word.nd (pi_range1 rfl T.n_range (pa_cons (pv 1) pa_nil)) (blkOk_by (own := [("k", 3)]) (N := ["state", "many", "letters", "k"]) (sc := defScope s_u_law_word) (by decide +kernel)) (fun _ _ _ _ _ => (pg_name (i := 3) sc_u_law_word.nd rfl (Or.inl rfl))) (fun _ _ _ _ _ => pts_nil) (fun _ _ _ _ _ => (pe_ix ix_str (pv 2) (pe_call G_u_law_draw (hr.mono (by omega)) rfl T.m_u_law_draw T.F_u_law_draw.kp T.b_u_law_draw .nil pass0 (pa_cons (pv 0) (pa_cons pe_int pa_nil))) (fun _ _ => rfl)))))))), ?_⟩
  refine ⟨⟨_, rfl⟩, ?_⟩
  walk_at "rd"
  refine ⟨by omega, by omega, fun D hD => ?_⟩
  obtain ⟨sD, lD⟩ := hst.free hD
  refine lc_range (lo := 0) (n := m) (fun i H' => ∃ zs : List Str, H' D = some (.lst (zs.map V.str)) ∧ zs.length = i ∧ (∀ z ∈ zs, z.length = 1 ∧ Low z) ∧ But s H H' ∧ St H' s l) ?_ ?_ ?_
  · exact ⟨[], upd_same, rfl, (fun z hz => nomatch hz), but_same (same_new hD _), hst.upd sD lD⟩
  · rintro i H1 hi ⟨zs, hD1, hl, hz, b1, st1⟩
    refine ⟨rfl, ?_⟩
    walk_at "rd"
    refine ⟨s, l, 26, rfl, st1, by decide, by decide, fun r H2 r0 r1 b2 st2 => ?_⟩
    refine ⟨_, _, _, rfl, rfl, by decide, abc_at r0 r1, ?_⟩
    have hD2 := b2 _ _ hD1 sD.symm
    refine ⟨_, hD2, ?_, zs ++ [⟨#[97 + r.toNat]⟩], ?_, ?_, ?_, (b1.trans b2).mut hD _, st2.upd sD lD⟩
    · rw [List.length_map]; exact Nat.lt_of_le_of_lt (show zs.length ≤ 1000 by omega) (by decide)
    · rw [upd_same, List.map_append]; rfl
    · rw [List.length_append, hl]; rfl
    · intro z hz'
      rcases List.mem_append.mp hz' with h | h
      · exact hz z h
      · rw [List.mem_singleton.mp h]
        exact ⟨rfl, low_one (by omega)⟩
  · rintro H1 ⟨zs, hD1, hl, hz, b1, st1⟩
    have j := join_low hz
    refine ⟨_, _, zs, rfl, rfl, .inl (SqL.of hD1), ?_, q _ _ b1 st1 (by rw [j.1, hl]) j.2⟩
    rw [sum_ones fun z h => (hz z h).1]
    show zs.length + zs.length * 0 ≤ _
    omega

/-! _law_names -/
def sp_u_law_names : Sp := fun vs H Q _ => ∃ (s l : Addr) (m : Nat), vs = [.ref s, .int (m : Int)] ∧ St H s l ∧ m ≤ 26 ∧ ∀ p fs H', But s H H' → St H' s l → H p = none → H' p = some (.lst (fs.map V.str)) → fs.length = m → Names fs → Q (.ref p) H'
theorem ok_u_law_names (T : Tx K mg A) : FnOk P w K mg base CX0 (5) A.a_u_law_names A.d_u_law_names ["state", "count"] sp_u_law_names := by
  have G_u_law_draw := ok_u_law_draw (P := P) (w := w) (base := base) T
  have G_u_law_word := ok_u_law_word (P := P) (w := w) (base := base) T
  refine T.F_u_law_names.ok sc_u_law_names (fun vs H Q E h => ?_) (fun cdv Ar outer s0 H vs Q E hr h => ?_)
  · obtain ⟨s, l, m, rfl, _⟩ := h; rfl
  obtain ⟨s, l, m, rfl, hst, hm, q⟩ := h
  refine ⟨_, (pss_cons (ps_set (i := 2) sc_u_law_names.nd rfl (Or.inr rfl) pe_str)
    (pss_cons (ps_set (i := 3) sc_u_law_names.nd rfl (Or.inr rfl) (pe_call G_u_law_word (hr.mono (by omega)) rfl T.m_u_law_word T.F_u_law_word.kp T.b_u_law_word .nil pass0 (pa_cons (pv 0) (pa_cons (pe_call G_u_law_draw (hr.mono (by omega)) rfl T.m_u_law_draw T.F_u_law_draw.kp T.b_u_law_draw .nil pass0 (pa_cons (pv 0) (pa_cons pe_int pa_nil))) pa_nil))))
    (pss_cons (ps_set (i := 4) sc_u_law_names.nd rfl (Or.inr rfl) (pe_call G_u_law_word (hr.mono (by omega)) rfl T.m_u_law_word T.F_u_law_word.kp T.b_u_law_word .nil pass0 (pa_cons (pv 0) (pa_cons (pe_call G_u_law_draw (hr.mono (by omega)) rfl T.m_u_law_draw T.F_u_law_draw.kp T.b_u_law_draw .nil pass0 (pa_cons (pv 0) (pa_cons pe_int pa_nil))) pa_nil))))
    (pss_cons (ps_set (i := 5) sc_u_law_names.nd rfl (Or.inr rfl) (pe_call G_u_law_draw (hr.mono (by omega)) rfl T.m_u_law_draw T.F_u_law_draw.kp T.b_u_law_draw .nil pass0 (pa_cons (pv 0) (pa_cons pe_int pa_nil))))
    (pss_one (ps_ret (pe_lc (own := [("k", 6)]) (by rfl) sc_u_law_names.nd (pi_range1 rfl T.n_range (pa_cons (pv 1) pa_nil)) (blkOk_by (own := [("k", 6)]) (N := ["state", "count", "letters", "before", "behind", "first", "k"]) (sc := defScope s_u_law_names) (by decide +kernel)) (fun _ _ _ _ _ => (pg_name (i := 6) sc_u_law_names.nd rfl (Or.inl rfl))) (fun _ _ _ _ _ => pts_nil) (fun _ _ _ _ _ => (pe_op op_add_str (pe_op op_add_str (pv 3) (pe_ix ix_str (pv 2) (pe_op op_mod (pe_callTy call_int1 (by rfl) T.n_int boot_int (pa_cons (pe_op op_add (pv 5) (pe_op op_mul pe_int (pv 6))) pa_nil)) pe_int) (fun _ _ => rfl))) (pv 4)))))))))), ?_⟩
  walk_at "rd"
  refine ⟨s, l, 4, rfl, hst, by decide, by decide, fun r1 H1 r10 r11 b1 st1 => ?_⟩
  obtain ⟨k1, rfl⟩ := Int.eq_ofNat_of_zero_le r10
  refine ⟨s, l, k1, rfl, st1, by omega, fun z1 H2 b2 st2 zl1 zw1 => ?_⟩
  walk_at "rd"
  refine ⟨s, l, 4, rfl, st2, by decide, by decide, fun r3 H3 r30 r31 b3 st3 => ?_⟩
  obtain ⟨k3, rfl⟩ := Int.eq_ofNat_of_zero_le r30
  refine ⟨s, l, k3, rfl, st3, by omega, fun z4 H4 b4 st4 zl4 zw4 => ?_⟩
  walk_at "rd"
  refine ⟨s, l, 26, rfl, st4, by decide, by decide, fun r5 H5 r50 r51 b5 st5 => ?_⟩
  obtain ⟨f, rfl⟩ := Int.eq_ofNat_of_zero_le r50
  walk_at "rd"
  refine ⟨by omega, by omega, fun D hD => ?_⟩
  have bb := b1.trans (b2.trans (b3.trans (b4.trans b5)))
  obtain ⟨sD, lD⟩ := st5.free hD
  have hD0 : H D = none := by
    cases e : H D with
    | none => rfl
    | some o =>
      have := bb _ _ e sD.symm
      rw [hD] at this; cases this
  refine lc_range (lo := 0) (n := m) (fun i H' => H' D = some (.lst (((List.range i).map (nameAt z1 z4 f)).map V.str)) ∧ But s H5 H' ∧ St H' s l) ?_ ?_ ?_
  · exact ⟨upd_same, but_same (same_new hD _), st5.upd sD lD⟩
  · rintro i H6 hi ⟨hD6, b6, st6⟩
    refine ⟨rfl, ?_⟩
    walk_at "rd"
    have e : ((f : Int) + 3 * (0 + (i : Int))) % 26 = (((f + 3 * i) % 26 : Nat) : Int) := by omega
    refine ⟨_, _, 97 + (f + 3 * i) % 26, rfl, rfl, by decide, ?_, ?_⟩
    · show atI _ (((f : Int) + 3 * (0 + (i : Int))) % 26) = _
      rw [e]
      exact atI_nat (abc _ (Nat.mod_lt _ (by decide)))
    refine ⟨_, _, rfl, rfl, ?_, ?_⟩
    · show z1.length + 1 ≤ _
      exact Nat.le_trans (show z1.length + 1 ≤ 4 by omega) (by decide)
    walk_at "rd"
    refine ⟨?_, ?_⟩
    · rw [len_app]
      show z1.length + 1 + z4.length ≤ _
      exact Nat.le_trans (show z1.length + 1 + z4.length ≤ 10 by omega) (by decide)
    refine ⟨_, hD6, ?_, ?_, b6.mut hD _, st6.upd sD lD⟩
    · rw [List.length_map, List.length_map, List.length_range]; exact Nat.lt_of_le_of_lt (show i ≤ 26 by omega) (by decide)
    · rw [upd_same, List.range_succ, List.map_append, List.map_append]; rfl
  · rintro H6 ⟨hD6, b6, st6⟩
    refine q D _ H6 (bb.trans b6) st6 hD0 hD6 ?_ (names_ok zw1 zw4 (by omega) (by omega) hm)
    rw [List.length_map, List.length_range]

/-! _law_operations -/
def sp_u_law_operations : Sp := fun vs H Q _ => ∃ (s l : Addr), vs = [.ref s] ∧ St H s l ∧ ∀ o fs H', But s H H' → St H' s l → H o = none → Ops H' o fs → Q (.ref o) H'
theorem ok_u_law_operations (T : Tx K mg A) : FnOk P w K mg base CX0 (6) A.a_u_law_operations A.d_u_law_operations ["state"] sp_u_law_operations := by
  have G_u_law_draw := ok_u_law_draw (P := P) (w := w) (base := base) T
  have G_u_law_names := ok_u_law_names (P := P) (w := w) (base := base) T
  refine T.F_u_law_operations.ok sc_u_law_operations (fun vs H Q E h => ?_) (fun cdv Ar outer s0 H vs Q E hr h => ?_)
  · obtain ⟨s, l, rfl, _⟩ := h; rfl
  obtain ⟨s, l, rfl, hst, q⟩ := h
  refine ⟨_, (pss_cons (ps_set (i := 1) sc_u_law_operations.nd rfl (Or.inr rfl) (pe_call G_u_law_names (hr.mono (by omega)) rfl T.m_u_law_names T.F_u_law_names.kp T.b_u_law_names .nil pass0 (pa_cons (pv 0) (pa_cons pe_int pa_nil))))
    (pss_cons (ps_set (i := 2) sc_u_law_operations.nd rfl (Or.inr rfl) (pe_lst (pa_cons pe_int (pa_cons pe_int (pa_cons pe_int (pa_cons pe_int (pa_cons pe_int pa_nil)))))))
    (pss_one (ps_ret (pe_lc (own := [("k", 3)]) (by rfl) sc_u_law_operations.nd (pi_range1 rfl T.n_range (pa_cons (pe_op op_add pe_int (pe_call G_u_law_draw (hr.mono (by omega)) rfl T.m_u_law_draw T.F_u_law_draw.kp T.b_u_law_draw .nil pass0 (pa_cons (pv 0) (pa_cons pe_int pa_nil)))) pa_nil)) (blkOk_by (own := [("k", 3)]) (N := ["state", "names", "arities", "k"]) (sc := defScope s_u_law_operations) (by decide +kernel)) (fun _ _ _ _ _ => (pg_name (i := 3) sc_u_law_operations.nd rfl (Or.inl rfl))) (fun _ _ _ _ _ => pts_nil) (fun _ _ _ _ _ => (pe_tup (pa_cons (pe_ix (r := rIxL K) ix_list (pv 1) (pv 3) (fun _ _ => rfl)) (pa_cons (pe_ix (r := rIxL K) ix_list (pv 2) (pv 3) (fun _ _ => rfl)) pa_nil))))))))), ?_⟩
  walk_at "rd"
  refine ⟨s, l, 5, rfl, hst, by decide, fun p fs H1 b1 st1 np hp hl hn => ?_⟩
  walk_at "rd"
  refine ⟨by show 5 ≤ sizeLine; decide, ?_⟩
  first | intro ra n2 | refine fun ra n2 => ?_
  generalize ehn : upd H1 ra _ = H2
  have s2 := J.al_same n2 ehn
  have h2 := J.al_at ehn
  clear ehn
  walk_at "rd"
  have st2 := st1.same s2
  refine ⟨s, l, 2, rfl, st2, by decide, by decide, fun r H3 r0 r1 b3 st3 => ?_⟩
  obtain ⟨n, rfl⟩ := Int.eq_ofNat_of_zero_le r0
  walk_at "rd"
  refine ⟨by omega, by omega, fun D hD => ?_⟩
  obtain ⟨sD, lD⟩ := st3.free hD
  have bb := b1.trans ((but_same s2).trans b3)
  have hD0 : H D = none := by
    cases e : H D with
    | none => rfl
    | some o =>
      have := bb _ _ e sD.symm
      rw [hD] at this; cases this
  have nra : ra ≠ s := (st1.free n2).1.symm
  have hp3 : H3 p = some (.lst (fs.map V.str)) := b3 _ _ (s2 _ _ hp) fun z => by
    rw [z] at np
    exact (hst.free np).1 rfl
  have hra3 := b3 _ _ h2 nra
  refine lc_range (lo := 0) (n := 4 + n) (fun i H' => ∃ as : List Addr, H' D = some (.lst (as.map V.ref)) ∧ as.length = i ∧ Same H3 H' ∧ ∀ (k : Nat) (f : Str) (a : Addr), fs[k]? = some f → as[k]? = some a → H' a = some (.tup [.str f, .int (ar k)])) ?_ ?_ ?_
  · exact ⟨[], upd_same, rfl, same_new hD _, fun k f a _ e => by simp at e⟩
  · rintro i H6 hi ⟨as, hD6, hl6, s6, ht⟩
    refine ⟨rfl, ?_⟩
    have hi5 : i < fs.length := by omega
    have gf : (fs.map V.str)[i]? = some (.str fs[i]) := by rw [List.getElem?_map, List.getElem?_eq_getElem hi5]; rfl
    have e0 : (0 : Int) + (i : Int) = (i : Int) := by omega
    walk_at "rd"
    refine ⟨p, _, _, _, rfl, rfl, SqL.of (s6 _ _ hp3), by rw [e0]; exact atI_nat gf, ?_⟩
    walk_at "rd"
    have ga : ([.int 0, .int 0, .int 1, .int 2, .int 3] : List V)[i]? = some (.int (ar i)) := by
      match i, hi5, hl with
      | 0, _, _ => rfl
      | 1, _, _ => rfl
      | 2, _, _ => rfl
      | 3, _, _ => rfl
      | 4, _, _ => rfl
      | j + 5, h5, hl => omega
    refine ⟨ra, _, _, _, rfl, rfl, SqL.of (s6 _ _ hra3), by rw [e0]; exact atI_nat ga, ?_⟩
    walk_at "rd"
    refine ⟨by show 2 ≤ sizeLine; decide, ?_⟩
    first | intro t n7 | refine fun t n7 => ?_
    generalize ehn : upd H6 t _ = H7
    have s7 := J.al_same n7 ehn
    have h7 := J.al_at ehn
    clear ehn
    refine ⟨_, s7 _ _ hD6, ?_, as ++ [t], ?_, ?_, ?_, ?_⟩
    · rw [List.length_map]; exact Nat.lt_of_le_of_lt (show as.length ≤ 5 by omega) (by decide)
    · rw [upd_same, List.map_append]; rfl
    · rw [List.length_append, hl6]; rfl
    · exact same_mut (s6.trans s7) hD _
    · intro k f a hf ha
      have ntD : ∀ b xs, H7 b = some (.tup xs) → b ≠ D := fun b xs e z => by
        rw [z, s7 _ _ hD6] at e; cases e
      by_cases hk : k < as.length
      · rw [List.getElem?_append_left hk] at ha
        have q := s7 _ _ (ht k f a hf ha)
        rw [upd_ne (ntD _ _ q)]; exact q
      · have ek : k = i := by
          have := (List.getElem?_eq_some_iff.mp ha).1
          rw [List.length_append, List.length_singleton] at this
          omega
        subst ek
        rw [List.getElem?_append_right (by omega), hl6, Nat.sub_self] at ha
        have ea : t = a := by simpa using ha
        subst ea
        rw [List.getElem?_eq_getElem hi5] at hf
        injection hf with hf
        subst hf
        rw [upd_ne (ntD _ _ h7)]; exact h7
  · rintro H6 ⟨as, hD6, hl6, s6, ht⟩
    have hn' : Names (fs.take (4 + n)) := ⟨fun f h => hn.low f (List.mem_of_mem_take h), fun f h => hn.lo f (List.mem_of_mem_take h), fun f h => hn.hi f (List.mem_of_mem_take h), hn.nd.sublist (List.take_sublist _ _)⟩
    have hl' : (fs.take (4 + n)).length = 4 + n := by rw [List.length_take, hl]; omega
    refine q D (fs.take (4 + n)) H6 (bb.trans (but_same s6)) (st3.same s6) hD0 ⟨hn', by omega, as, hD6, by omega, fun k f a hf ha => ?_⟩
    have hk : k < 4 + n := by
      have := (List.getElem?_eq_some_iff.mp ha).1
      omega
    rw [List.getElem?_take_of_lt hk] at hf
    exact ht k f a hf ha

/-! _law_leaf -/
def sp_u_law_leaf : Sp := fun vs H Q _ => ∃ (s l o : Addr) (fs : List Str) (B : Int), vs = [.ref s, .ref o, .int B] ∧ St H s l ∧ Ops H o fs ∧ 0 ≤ B ∧ B < 1073741824 ∧ ∀ v t H', But s H H' → St H' s l → TmIn H' t v → t.wf fs B → t.dep ≤ 1 → t.sz = 1 → Q v H'
theorem ok_u_law_leaf (T : Tx K mg A) : FnOk P w K mg base CX0 (4) A.a_u_law_leaf A.d_u_law_leaf ["state", "operations", "count"] sp_u_law_leaf := by
  have G_u_law_draw := ok_u_law_draw (P := P) (w := w) (base := base) T
  refine T.F_u_law_leaf.ok sc_u_law_leaf (fun vs H Q E h => ?_) (fun cdv Ar outer s0 H vs Q E hr h => ?_)
  · obtain ⟨s, l, o, fs, B, rfl, _⟩ := h; rfl
  obtain ⟨s, l, o, fs, B, rfl, hst, hop, B0, B1, q⟩ := h
  refine ⟨_, (pss_cons (ps_if (PW.pt (pw_and (pt_cmpR op_gt (pv 2) pe_int (nomark _)) (pw_and1 (pt_cmpR op_eq (pe_call G_u_law_draw (hr.mono (by omega)) rfl T.m_u_law_draw T.F_u_law_draw.kp T.b_u_law_draw .nil pass0 (pa_cons (pv 0) (pa_cons pe_int pa_nil))) pe_int (nomark _))))) (pss_one (ps_ret (pe_call G_u_law_draw (hr.mono (by omega)) rfl T.m_u_law_draw T.F_u_law_draw.kp T.b_u_law_draw .nil pass0 (pa_cons (pv 0) (pa_cons (pv 2) pa_nil))))) pss_nil)
    (pss_one (ps_ret (pe_tup (pa_cons (pe_ix (r := rIxT K) ix_tup (pe_ix (r := rIxL K) ix_list (pv 1) (pe_call G_u_law_draw (hr.mono (by omega)) rfl T.m_u_law_draw T.F_u_law_draw.kp T.b_u_law_draw .nil pass0 (pa_cons (pv 0) (pa_cons pe_int pa_nil))) (fun _ _ => rfl)) pe_int (fun _ _ => rfl)) pa_nil))))), ?_⟩
  refine seq_join (fun σ' H' => σ' = [some (.ref s), some (.ref o), some (.int B)] ∧ But s H H' ∧ St H' s l) ?_ (fun N cont => ?_)
  · rintro σ' H1 ⟨rfl, b1, st1⟩
    have op1 := hop.but hst b1
    walk_at "rd"
    refine ⟨s, l, 2, rfl, st1, by decide, by decide, fun r H2 r0 r1 b2 st2 => ?_⟩
    have op2 := op1.but st1 b2
    obtain ⟨n, rfl⟩ := Int.eq_ofNat_of_zero_le r0
    obtain ⟨xs, a, f, ho, hl, hx, hf, ha⟩ := op2.get (k := n) (by have := op2.2.1; omega)
    refine ⟨o, _, _, _, rfl, rfl, SqL.of ho, atI_nat hx, ?_⟩
    walk_at "rd"
    refine ⟨by show 1 ≤ sizeLine; decide, ?_⟩
    first | intro p n3 | refine fun p n3 => ?_
    generalize ehn : upd H2 p _ = H3
    have s3 := J.al_same n3 ehn
    have h3 := J.al_at ehn
    clear ehn
    refine q (.ref p) (.app f []) H3 (b1.trans (b2.trans (but_same s3))) (st2.same s3) ⟨p, [], rfl, h3, rfl⟩ ⟨⟨n, hf, ?_⟩, trivial⟩ (Nat.le_refl _) rfl
    show 0 = ar n
    unfold ar
    rw [if_pos (by omega)]
  · walk_at "rd"
    refine ite2 (fun e => ?_) (fun e => ?_)
    · have e := of_decide_eq_true e
      walk_at "rd"
      refine ⟨s, l, 2, rfl, hst, by decide, by decide, fun r H2 r0 r1 b2 st2 => ?_⟩
      walk_at "rd"
      refine ite2 (fun e2 => ?_) (fun e2 => ?_)
      · walk_at "rd"
        refine ⟨s, l, B, rfl, st2, by omega, B1, fun r3 H3 r30 r31 b3 st3 => ?_⟩
        exact q _ (.var r3) H3 (b2.trans b3) st3 rfl ⟨r30, r31⟩ (Nat.le_refl _) rfl
      · exact cont _ _ ⟨rfl, b2, st2⟩
    · exact cont _ _ ⟨rfl, But.refl _ _, hst⟩

/-! _law_term -/
def sp_u_law_term (N : Nat) : Sp := fun vs H Q _ => ∃ (s l o : Addr) (fs : List Str) (B : Int) (h : Nat), h < N ∧ vs = [.ref s, .ref o, .int B, .int (h : Int)] ∧ St H s l ∧ Ops H o fs ∧ 0 ≤ B ∧ B < 1073741824 ∧
  ∀ v t H', But s H H' → St H' s l → TmIn H' t v → t.wf fs B → t.dep ≤ h + 1 → 2 * t.sz + 1 ≤ 3 ^ (h + 1) → Q v H'
theorem st_u_law_term (T : Tx K mg A) (N : Nat) (G_u_law_term : FnOk P w K mg base CX0 (N + 5) A.a_u_law_term A.d_u_law_term ["state", "operations", "count", "height"] (sp_u_law_term N)) : FnOk P w K mg base CX0 (N + 6) A.a_u_law_term A.d_u_law_term ["state", "operations", "count", "height"] (sp_u_law_term (N + 1)) := by
  have G_u_law_draw := ok_u_law_draw (P := P) (w := w) (base := base) T
  have G_u_law_leaf := ok_u_law_leaf (P := P) (w := w) (base := base) T
  refine T.F_u_law_term.ok sc_u_law_term (fun vs H Q E h => ?_) (fun cdv Ar outer s0 H vs Q E hr h => ?_)
  · obtain ⟨s, l, o, fs, B, h, hN, rfl, _⟩ := h; rfl
  obtain ⟨s, l, o, fs, B, h, hN, rfl, hst, hop, B0, B1, q⟩ := h
  refine ⟨_, (pss_cons (ps_if (PW.pt (pw_or (pt_cmpR op_eq (pv 3) pe_int (nomark _)) (pw_or1 (pt_cmpR op_eq (pe_call G_u_law_draw (hr.mono (by omega)) rfl T.m_u_law_draw T.F_u_law_draw.kp T.b_u_law_draw .nil pass0 (pa_cons (pv 0) (pa_cons pe_int pa_nil))) pe_int (nomark _))))) (pss_one (ps_ret (pe_call G_u_law_leaf (hr.mono (by omega)) rfl T.m_u_law_leaf T.F_u_law_leaf.kp T.b_u_law_leaf .nil pass0 (pa_cons (pv 0) (pa_cons (pv 1) (pa_cons (pv 2) pa_nil)))))) pss_nil)
    (pss_cons (ps_asg (pe_ix (r := rIxL K) ix_list (pv 1) (pe_op op_add pe_int (pe_call G_u_law_draw (hr.mono (by omega)) rfl T.m_u_law_draw T.F_u_law_draw.kp T.b_u_law_draw .nil pass0 (pa_cons (pv 0) (pa_cons (pe_op op_sub (pe_callB (r := rLenS K) j_len (by rfl) T.n_len PySem.boot_len (pa_cons (pv 1) pa_nil)) pe_int) pa_nil)))) (fun _ _ => rfl)) (pg_tup (by rfl) (pgs_cons (pg_name (i := 4) sc_u_law_term.nd rfl (Or.inl rfl)) (pgs_cons (pg_name (i := 5) sc_u_law_term.nd rfl (Or.inl rfl)) pgs_nil))))
    (pss_cons (ps_set (i := 6) sc_u_law_term.nd rfl (Or.inl rfl) (pe_tup (pa_cons (pv 4) pa_nil)))
    (pss_cons (ps_for PassesOwn.never rfl (pi_range1 rfl T.n_range (pa_cons (pv 5) pa_nil)) (pg_name (i := 7) sc_u_law_term.nd rfl (Or.inl rfl)) (pss_one (ps_set (i := 6) sc_u_law_term.nd rfl (Or.inl rfl) (pe_op (r := rCatT K) op_catT (pv 6) (pe_tup (pa_cons (pe_call G_u_law_term (hr.mono (by omega)) rfl T.m_u_law_term T.F_u_law_term.kp T.b_u_law_term .nil pass0 (pa_cons (pv 0) (pa_cons (pv 1) (pa_cons (pv 2) (pa_cons (pe_op op_sub (pv 3) pe_int) pa_nil))))) pa_nil))))))
    (pss_one (ps_ret (pv 6))))))), ?_⟩
  refine seq_join (fun σ' H' => σ' = [some (.ref s), some (.ref o), some (.int B), some (.int (h : Int)), none, none, none, none] ∧ But s H H' ∧ St H' s l ∧ 1 ≤ h) ?_ (fun N' cont => ?_)
  · rintro σ' H1 ⟨rfl, b1, st1, h1⟩
    have op1 := hop.but hst b1
    have hfl := op1.2.1
    obtain ⟨xs1, _, _, ho1, hxl, _⟩ := op1.get (k := 0) (by omega)
    walk_at "rd"
    refine ⟨s, l, _, rfl, st1, by show (1 : Int) ≤ (xs1.length : Int) - 2; omega, by show (xs1.length : Int) - 2 < _; omega, fun r H2 r0 r1 b2 st2 => ?_⟩
    have r1 : r < (xs1.length : Int) - 2 := r1
    have op2 := op1.but st1 b2
    obtain ⟨n, rfl⟩ := Int.eq_ofNat_of_zero_le r0
    obtain ⟨xs, a, f, ho, hl, hx, hf, ha⟩ := op2.get (k := n + 2) (by omega)
    have e2 : (2 : Int) + (n : Int) = ((n + 2 : Nat) : Int) := by omega
    refine ⟨_, _, rfl, rfl, ?_⟩
    refine ⟨o, _, _, _, rfl, rfl, SqL.of ho, by rw [e2]; exact atI_nat hx, ?_⟩
    refine ⟨a, _, rfl, SqT.of ha, rfl, _, _, rfl, _, _, rfl, rfl, ?_⟩
    walk_at "rd"
    refine ⟨by show 1 ≤ sizeLine; decide, ?_⟩
    first | intro p n3 | refine fun p n3 => ?_
    generalize ehn : upd H2 p _ = H3
    have s3 := J.al_same n3 ehn
    have h3 := J.al_at ehn
    clear ehn
    have har : ar (n + 2) = n + 1 := by unfold ar; rw [if_neg (by omega)]; rfl
    have st3 := st2.same s3
    have op3 := op2.same s3
    walk_at "rd"
    refine ⟨by omega, by omega, for_range (lo := 0) (n := ar (n + 2)) (fun i σ' H' => ∃ p ts vs x, σ' = [some (.ref s), some (.ref o), some (.int B), some (.int (h : Int)), some (.str f), some (.int (ar (n + 2) : Int)), some (.ref p), x] ∧ H' p = some (.tup (.str f :: vs)) ∧ TmsIn H' ts vs ∧ ts.length = i ∧ (∀ t ∈ ts, t.wf fs B ∧ t.dep ≤ h ∧ 2 * t.sz + 1 ≤ 3 ^ h) ∧ But s H3 H' ∧ St H' s l) ?_ ?_ ?_⟩
    · exact ⟨p, [], [], none, rfl, h3, rfl, rfl, (fun t ht => nomatch ht), But.refl _ _, st3⟩
    · rintro i σ' H4 hi ⟨p, ts, vs, x, rfl, hp, hts, hl', hw, b4, st4⟩
      walk_at "rd"
      refine ⟨s, l, o, fs, B, h - 1, by omega, by have e : ((h - 1 : Nat) : Int) = (h : Int) - 1 := by omega
                                                  rw [e]; rfl, st4, op3.but st3 b4, B0, B1, fun v t H5 b5 st5 ht htw htd hts' => ?_⟩
      refine ⟨by show 1 ≤ sizeLine; decide, ?_⟩
      first | intro u n6 | refine fun u n6 => ?_
      generalize ehn : upd H5 u _ = H6
      have s6 := J.al_same n6 ehn
      have h6 := J.al_at ehn
      clear ehn
      have tu45 := st4.tu b5
      have hlen : vs.length = i := by rw [hts.length, hl']
      refine ⟨p, u, _, _, rfl, rfl, SqT.of (s6 _ _ (tu45 _ _ hp)), SqT.of h6, List.cons_ne_nil _ _, ?_, fun z => absurd z (List.cons_ne_nil _ _), fun _ => ?_⟩
      · rw [List.length_cons, hlen]
        exact Nat.le_trans (show i + 1 + 1 ≤ 10 by omega) (by decide)
      first | intro y n7 | refine fun y n7 => ?_
      generalize ehn : upd H6 y _ = H7
      have s7 := J.al_same n7 ehn
      have h7 := J.al_at ehn
      clear ehn
      have tu67 : Tu H4 H7 := tu45.trans ((tu_same s6).trans (tu_same s7))
      refine ⟨y, ts ++ [t], vs ++ [v], _, rfl, h7, (hts.tu tu67).append (TmsIn.one ((ht.tu (tu_same s6)).tu (tu_same s7))), ?_, ?_, b4.trans (b5.trans ((but_same s6).trans (but_same s7))), (st5.same s6).same s7⟩
      · rw [List.length_append, hl']; rfl
      · intro t' ht'
        rcases List.mem_append.mp ht' with z | z
        · exact hw t' z
        · rw [List.mem_singleton.mp z]
          rw [show h - 1 + 1 = h by omega] at hts' htd
          exact ⟨htw, htd, hts'⟩
    · rintro σ' H4 ⟨p, ts, vs, x, rfl, hp, hts, hl', hw, b4, st4⟩
      walk_at "rd"
      refine q (.ref p) (.app f ts) H4 (b1.trans (b2.trans ((but_same s3).trans b4))) st4 ⟨p, vs, rfl, hp, hts⟩ ⟨⟨n + 2, hf, hl'⟩, Tm.wfs_of fun t ht => (hw t ht).1⟩ ?_ ?_
      · have := Tm.deps_le fun t ht => (hw t ht).2.1
        show 1 + Tm.deps ts ≤ h + 1
        omega
      · exact Tm.szs_three (by omega) fun t ht => (hw t ht).2.2
  · walk_at "rd"
    refine ite2 (fun e => ?_) (fun e => ?_)
    · walk_at "rd"
      refine ⟨s, l, o, fs, B, rfl, hst, hop, B0, B1, fun v t H1 b1 st1 ht hw hd hz => q v t H1 b1 st1 ht hw (by omega) (by rw [hz]; exact Nat.pow_le_pow_right (by decide : 3 > 0) (show 1 ≤ h + 1 by omega))⟩
    · have e : ¬ V.int (h : Int) = V.int 0 := fun z => e (decide_eq_true z)
      have h1 : 1 ≤ h := by
        rcases Nat.eq_zero_or_pos h with z | z
        · rw [z] at e; exact absurd rfl e
        · exact z
      walk_at "rd"
      refine ⟨s, l, 4, rfl, hst, by decide, by decide, fun r H2 r0 r1 b2 st2 => ?_⟩
      walk_at "rd"
      refine ite2 (fun e => ?_) (fun e => ?_)
      · walk_at "rd"
        refine ⟨s, l, o, fs, B, rfl, st2, hop.but hst b2, B0, B1, fun v t H1 b1 st1 ht hw hd hz => q v t H1 (b2.trans b1) st1 ht hw (by omega) (by rw [hz]; exact Nat.pow_le_pow_right (by decide : 3 > 0) (show 1 ≤ h + 1 by omega))⟩
      · exact cont _ _ ⟨rfl, b2, st2, h1⟩

theorem all_u_law_term (T : Tx K mg A) : ∀ N : Nat, FnOk P w K mg base CX0 (N + 5) A.a_u_law_term A.d_u_law_term ["state", "operations", "count", "height"] (sp_u_law_term N)
  | 0 => fn_none fun vs H Q E h => by obtain ⟨s, l, o, fs, B, h, hN, _⟩ := h; omega
  | N + 1 => st_u_law_term T N (all_u_law_term T N)
theorem ok_u_law_term (T : Tx K mg A) : FnOk P w K mg base CX0 10 A.a_u_law_term A.d_u_law_term ["state", "operations", "count", "height"] (sp_u_law_term 5) := all_u_law_term T 5

/-! _law_spaced -/
def sp_u_law_spaced : Sp := fun vs H Q _ => ∃ (s l tk : Addr) (W : List Tk), vs = [.ref s, .ref tk] ∧ St H s l ∧ tk ≠ s ∧ H tk = some (.lst ((W.map Tk.txt).map V.str)) ∧ (∀ t ∈ W, t.Ok) ∧ W.length ≤ 3000 ∧ ∀ z P H', But s H H' → St H' s l → cods z = lay P → P.filterMap id = W → z.length ≤ 10 * W.length + 1 → Q (.str z) H'
theorem ok_u_law_spaced (T : Tx K mg A) : FnOk P w K mg base CX0 (4) A.a_u_law_spaced A.d_u_law_spaced ["state", "tokens"] sp_u_law_spaced := by
  have G_u_law_draw := ok_u_law_draw (P := P) (w := w) (base := base) T
  refine T.F_u_law_spaced.ok sc_u_law_spaced (fun vs H Q E h => ?_) (fun cdv Ar outer s0 H vs Q E hr h => ?_)
  · obtain ⟨s, l, tk, W, rfl, _⟩ := h; rfl
  obtain ⟨s, l, tk, W, rfl, st, tks, htk, ok, wl, q⟩ := h
  refine ⟨_, (pss_cons (ps_set (i := 2) sc_u_law_spaced.nd rfl (Or.inl rfl) (pe_op op_mulS pe_str (pe_op op_fdiv (pe_call G_u_law_draw (hr.mono (by omega)) rfl T.m_u_law_draw T.F_u_law_draw.kp T.b_u_law_draw .nil pass0 (pa_cons (pv 0) (pa_cons pe_int pa_nil))) pe_int)))
    (pss_cons (ps_for PassesOwn.never rfl (pi_list (pv 1)) (pg_name (i := 3) sc_u_law_spaced.nd rfl (Or.inl rfl)) (pss_one (ps_set (i := 2) sc_u_law_spaced.nd rfl (Or.inl rfl) (pe_op op_add_str (pe_op op_add_str (pv 2) (pv 3)) (pe_op op_mulS pe_str (pe_op op_fdiv (pe_call G_u_law_draw (hr.mono (by omega)) rfl T.m_u_law_draw T.F_u_law_draw.kp T.b_u_law_draw .nil pass0 (pa_cons (pv 0) (pa_cons pe_int pa_nil))) pe_int))))))
    (pss_one (ps_ret (pv 2))))), ?_⟩
  walk_at "rd"
  refine ⟨s, l, 3, rfl, st, by decide, by decide, fun r H1 r0 r1 b1 st1 => ?_⟩
  obtain ⟨r, rfl⟩ := Int.eq_ofNat_of_zero_le r0
  walk_at "rd"
  refine ⟨Nat.le_trans (Nat.div_le_self _ _) (by omega), by decide +kernel, ?_⟩
  have hk0 : r / 2 ≤ 1 := by omega
  have m0 := mul_blank ⟨r / 2, by omega⟩
  dsimp only at m0
  dsimp only [gName]
  refine at_state (t := tSeq _ _) (σ' := [some (.ref s), some (.ref tk), some (.str (Txt.mul (" " : Str) ((r / 2 : Nat) : Int))), none]) rfl ?_
  generalize r / 2 = k0 at m0 hk0
  generalize Txt.mul (" " : Str) ((k0 : Nat) : Int) = z0 at m0
  have l0 : z0.length = k0 := (len_tl z0).trans (by rw [show z0.cps.toList = _ from m0, List.length_replicate])
  have lay0 : ∀ k : Nat, lay (List.replicate k none) = List.replicate k 32 := fun k => by
    induction k with
    | zero => rfl
    | succ k ih => show 32 :: lay (List.replicate k none) = _; rw [ih]; rfl
  have fm0 : ∀ k : Nat, (List.replicate k (none : Option Tk)).filterMap id = [] := fun k => by
    induction k with
    | zero => rfl
    | succ k ih => exact ih
  have htk1 := b1 _ _ htk tks
  walk_at "rd"
  refine ⟨⟨_, SqL.of htk1⟩, for_list (K := K) (a := tk) (xs := (W.map Tk.txt).map V.str) (fun i σ' H' => ∃ (z : Str) (P : List (Option Tk)) (x : Option V), σ' = [some (.ref s), some (.ref tk), some (.str z), x] ∧ cods z = lay P ∧ P.filterMap id = W.take i ∧ z.length ≤ 10 * i + 1 ∧ But s H1 H' ∧ St H' s l) ?_ ?_ ?_ ?_⟩
  · exact ⟨z0, List.replicate k0 none, none, rfl, by rw [m0, lay0], by rw [fm0]; rfl, by omega, But.refl _ _, st1⟩
  · rintro i σ' H2 hi ⟨z, P, x, rfl, hc, hP, hl, b2, st2⟩
    exact SqL.of (b2 _ _ htk1 tks)
  · rintro i y σ' H2 hi ⟨z, P, x, rfl, hc, hP, hl, b2, st2⟩
    rw [List.map_map] at hi
    rw [List.getElem?_map] at hi
    obtain ⟨t, gt, hi⟩ : ∃ t, W[i]? = some t ∧ V.str t.txt = y := by
      cases e : W[i]? with
      | none => rw [e] at hi; cases hi
      | some t => rw [e] at hi; exact ⟨t, rfl, Option.some.inj hi⟩
    subst hi
    have okt := ok t (List.mem_of_getElem? gt)
    have il := (List.getElem?_eq_some_iff.mp gt).1
    have t8 : t.txt.length ≤ 9 := by
      cases hw : t.isW with
      | true => exact (tk_word okt hw).2.2
      | false =>
        cases t with
        | nm f => cases hw
        | vr n => cases hw
        | sg c => show 1 ≤ 9; decide
        | bd z w' =>
          cases w' with
          | true => cases hw
          | false => obtain ⟨d, _, rfl⟩ := okt; show 1 ≤ 9; decide
    walk_at "rd"
    refine ⟨Nat.le_trans (show z.length + t.txt.length ≤ 100000 by omega) (by decide), ?_⟩
    walk_at "rd"
    refine ⟨s, l, 5, rfl, st2, by decide, by decide, fun r2 H3 r20 r21 b3 st3 => ?_⟩
    obtain ⟨r2, rfl⟩ := Int.eq_ofNat_of_zero_le r20
    walk_at "rd"
    refine ⟨Nat.le_trans (Nat.div_le_self _ _) (by omega), by decide +kernel, ?_⟩
    have hk2 : r2 / 3 ≤ 1 := by omega
    have m2 := mul_blank ⟨r2 / 3, by omega⟩
    dsimp only at m2
    have m2' : cods (Txt.mul (Str.ofString " ") ((r2 / 3 : Nat) : Int)) = List.replicate (r2 / 3) 32 := m2
    have l2 : (Txt.mul (Str.ofString " ") ((r2 / 3 : Nat) : Int)).length = r2 / 3 := (len_tl _).trans (by rw [show (Txt.mul (Str.ofString " ") ((r2 / 3 : Nat) : Int)).cps.toList = _ from m2', List.length_replicate])
    have lz : (z ++ t.txt).length = z.length + t.txt.length := len_app _ _
    refine ⟨_, _, rfl, rfl, ?_, ?_⟩
    · exact Nat.le_trans (show (z ++ t.txt).length + (Txt.mul (Str.ofString " ") ((r2 / 3 : Nat) : Int)).length ≤ 100000 by omega) (by decide)
    refine ⟨_, P ++ (some t :: List.replicate (r2 / 3) none), _, rfl, ?_, ?_, ?_, b2.trans b3, st3⟩
    · show cods ((z ++ t.txt) ++ Txt.mul (Str.ofString " ") ((r2 / 3 : Nat) : Int)) = _
      unfold cods at m2' hc ⊢
      rw [tl_app, tl_app, m2', hc, lay_app, List.append_assoc]
      show _ = lay P ++ (cods t.txt ++ lay (List.replicate (r2 / 3) none))
      rw [lay0]
    · rw [List.filterMap_append, hP, list_take_succ gt]
      show _ ++ (t :: (List.replicate (r2 / 3) (none : Option Tk)).filterMap id) = _
      rw [fm0]
    · show ((z ++ t.txt) ++ Txt.mul (Str.ofString " ") ((r2 / 3 : Nat) : Int)).length ≤ _
      rw [len_app]
      omega
  · rintro σ' H2 ⟨z, P, x, rfl, hc, hP, hl, b2, st2⟩
    rw [List.length_map, List.length_map, List.take_length] at hP
    rw [List.length_map, List.length_map] at hl
    walk_at "rd"
    exact q z P H2 (b1.trans b2) st2 hc hP hl

/-! _law_text -/
def sp_u_law_text : Sp := fun vs H Q _ => ∃ (s l tk : Addr) (W : List Tk), vs = [.ref s, .ref tk] ∧ St H s l ∧ tk ≠ s ∧ H tk = some (.lst ((W.map Tk.txt).map V.str)) ∧ (∀ t ∈ W, t.Ok) ∧ W.length ≤ 3000 ∧ ∀ z P H', But s H H' → St H' s l → cods z = lay P → P.filterMap id = W → z.length ≤ 10 * W.length + 1 → Q (.str z) H'
theorem ok_u_law_text (T : Tx K mg A) : FnOk P w K mg base CX0 (5) A.a_u_law_text A.d_u_law_text ["state", "tokens"] sp_u_law_text := by
  have G_u_law_spaced := ok_u_law_spaced (P := P) (w := w) (base := base) T
  refine T.F_u_law_text.ok sc_u_law_text (fun vs H Q E h => ?_) (fun cdv Ar outer s0 H vs Q E hr h => ?_)
  · obtain ⟨s, l, tk, W, rfl, _⟩ := h; rfl
  obtain ⟨s, l, tk, W, rfl, st, tks, htk, ok, wl, q⟩ := h
  refine ⟨_, (pss_one (ps_ret (pe_call G_u_law_spaced (hr.mono (by omega)) rfl T.m_u_law_spaced T.F_u_law_spaced.kp T.b_u_law_spaced .nil pass0 (pa_cons (pv 0) (pa_cons (pv 1) pa_nil))))), ?_⟩
  walk_at "rd"
  exact ⟨s, l, tk, W, rfl, st, tks, htk, ok, wl, q⟩

/-! _law_bad -/
def sp_u_law_bad : Sp := fun vs H Q _ => ∃ (s l : Addr), vs = [.ref s] ∧ St H s l ∧ ∀ z w H', But s H H' → St H' s l → (Tk.bd z w).Ok → Q (.str z) H'
theorem ok_u_law_bad (T : Tx K mg A) : FnOk P w K mg base CX0 (4) A.a_u_law_bad A.d_u_law_bad ["state"] sp_u_law_bad := by
  have G_u_law_draw := ok_u_law_draw (P := P) (w := w) (base := base) T
  refine T.F_u_law_bad.ok sc_u_law_bad (fun vs H Q E h => ?_) (fun cdv Ar outer s0 H vs Q E hr h => ?_)
  · obtain ⟨s, l, rfl, _⟩ := h; rfl
  obtain ⟨s, l, rfl, st, q⟩ := h
  refine ⟨_, (pss_cons (ps_set (i := 1) sc_u_law_bad.nd rfl (Or.inl rfl) (pe_lst (pa_cons pe_str (pa_cons pe_str (pa_cons pe_str (pa_cons pe_str (pa_cons pe_str (pa_cons pe_str (pa_cons pe_str (pa_cons pe_str (pa_cons pe_str (pa_cons pe_str (pa_cons pe_str (pa_cons pe_str (pa_cons pe_str (pa_cons pe_str (pa_cons pe_str pa_nil)))))))))))))))))
    (pss_one (ps_ret (pe_ix (r := rIxL K) ix_list (pv 1) (pe_call G_u_law_draw (hr.mono (by omega)) rfl T.m_u_law_draw T.F_u_law_draw.kp T.b_u_law_draw .nil pass0 (pa_cons (pv 0) (pa_cons (pe_callB (r := rLenS K) j_len (by rfl) T.n_len PySem.boot_len (pa_cons (pv 1) pa_nil)) pa_nil))) (fun _ _ => rfl))))), ?_⟩
  walk_at "rd"
  refine ⟨show 15 ≤ sizeLine by decide, ?_⟩
  first | intro p n1 | refine fun p n1 => ?_
  generalize ehn : upd H p _ = H1
  have s1 := J.al_same n1 ehn
  have h1 := J.al_at ehn
  clear ehn
  have st1 := st.same s1
  have ps : p ≠ s := fun z => by obtain ⟨_, _, _, q⟩ := st.lst; rw [← z, n1] at q; cases q
  walk_at "rd"
  refine ⟨s, l, 15, rfl, st1, by decide, by decide, fun r H2 r0 r1 b2 st2 => ?_⟩
  obtain ⟨r, rfl⟩ := Int.eq_ofNat_of_zero_le r0
  have hr : r < badAll.length := by show r < 15; omega
  have gr := List.getElem?_eq_getElem (l := badAll) hr
  have mr := List.getElem_mem hr
  generalize badAll[r] = z at gr mr
  obtain ⟨w', ok⟩ := badAll_ok z mr
  have h1' : H1 p = some (.lst (badAll.map V.str)) := h1
  refine ⟨p, _, _, .str z, rfl, rfl, SqL.of (b2 _ _ h1' ps), atI_nat (by rw [List.getElem?_map, gr]; rfl), ?_⟩
  exact q z w' H2 ((but_same s1).trans b2) st2 ok

/-! _law_spoilt -/
def sp_u_law_spoilt : Sp := fun vs H Q _ => ∃ (s l tk : Addr) (t : Tm) (fs : List Str), vs = [.ref s, .ref tk] ∧ St H s l ∧ tk ≠ s ∧ H tk = some (.lst (((tkl t).map Tk.txt).map V.str)) ∧ t.wf fs 20 ∧ Names fs ∧ (tkl t).length ≤ 1000 ∧
  ∀ p z Pc C H', But s H H' → St H' s l → H' p = some (.tup [.str z, .int ((lay Pc).length : Int)]) → cods z = lay (Pc ++ C) → Oks (Pc ++ C) → Sep (Pc ++ C) → C.head? ≠ some none → z.length ≤ 20000 → Stop (Pc.filterMap id) t (hdRow C 0).kd → Q (.ref p) H'
theorem ok_u_law_spoilt (T : Tx K mg A) : FnOk P w K mg base CX0 (7) A.a_u_law_spoilt A.d_u_law_spoilt ["state", "tokens"] sp_u_law_spoilt := by
  have G_u_law_bad := ok_u_law_bad (P := P) (w := w) (base := base) T
  have G_u_law_draw := ok_u_law_draw (P := P) (w := w) (base := base) T
  have G_u_law_text := ok_u_law_text (P := P) (w := w) (base := base) T
  refine T.F_u_law_spoilt.ok sc_u_law_spoilt (fun vs H Q E h => ?_) (fun cdv Ar outer s0 H vs Q E hr h => ?_)
  · obtain ⟨s, l, tk, t, fs, rfl, _⟩ := h; rfl
  obtain ⟨s, l, tk, t, fs, rfl, st, tks, htk, wt, hn, tl, q⟩ := h
  refine ⟨_, (pss_cons (ps_set (i := 2) sc_u_law_spoilt.nd rfl (Or.inl rfl) (pe_call G_u_law_draw (hr.mono (by omega)) rfl T.m_u_law_draw T.F_u_law_draw.kp T.b_u_law_draw .nil pass0 (pa_cons (pv 0) (pa_cons pe_int pa_nil))))
    (pss_cons (ps_if (PW.pt (pw_or (pt_cmpR op_eq (pv 2) pe_int (nomark _)) (pw_or1 (PW.pt (pw_and (pt_cmpR op_eq (pv 2) pe_int (nomark _)) (pw_and1 (pt_cmpR op_ne (pe_ix (r := rIxL K) ix_list (pv 1) (pe_op op_sub pe_int pe_int) (fun _ _ => rfl)) pe_str (nomark _)))))))) (pss_cons (ps_set (i := 3) sc_u_law_spoilt.nd rfl (Or.inl rfl) (pe_call G_u_law_draw (hr.mono (by omega)) rfl T.m_u_law_draw T.F_u_law_draw.kp T.b_u_law_draw .nil pass0 (pa_cons (pv 0) (pa_cons (pe_op op_add (pe_callB (r := rLenS K) j_len (by rfl) T.n_len PySem.boot_len (pa_cons (pv 1) pa_nil)) pe_int) pa_nil))))
    (pss_cons (ps_set (i := 4) sc_u_law_spoilt.nd rfl (Or.inl rfl) (pe_op op_add_str (pe_call G_u_law_text (hr.mono (by omega)) rfl T.m_u_law_text T.F_u_law_text.kp T.b_u_law_text .nil pass0 (pa_cons (pv 0) (pa_cons (pe_slice (r := rSlL K) sl_list (pv 1) po_none (po_some (pv 3))) pa_nil))) pe_str))
    (pss_one (ps_ret (pe_tup (pa_cons (pe_op op_add_str (pe_op op_add_str (pe_op op_add_str (pv 4) (pe_call G_u_law_bad (hr.mono (by omega)) rfl T.m_u_law_bad T.F_u_law_bad.kp T.b_u_law_bad .nil pass0 (pa_cons (pv 0) pa_nil))) pe_str) (pe_call G_u_law_text (hr.mono (by omega)) rfl T.m_u_law_text T.F_u_law_text.kp T.b_u_law_text .nil pass0 (pa_cons (pv 0) (pa_cons (pe_slice (r := rSlL K) sl_list (pv 1) (po_some (pv 3)) po_none) pa_nil)))) (pa_cons (pe_callB call_len_str (by rfl) T.n_len PySem.boot_len (pa_cons (pv 4) pa_nil)) pa_nil))))))) pss_nil)
    (pss_cons (ps_if (pt_cmpR op_eq (pv 2) pe_int (nomark _)) (pss_cons (ps_set (i := 4) sc_u_law_spoilt.nd rfl (Or.inl rfl) (pe_op op_add_str (pe_call G_u_law_text (hr.mono (by omega)) rfl T.m_u_law_text T.F_u_law_text.kp T.b_u_law_text .nil pass0 (pa_cons (pv 0) (pa_cons (pv 1) pa_nil))) pe_str))
    (pss_cons (ps_set (i := 5) sc_u_law_spoilt.nd rfl (Or.inl rfl) (pe_lst (pa_cons pe_str (pa_cons pe_str (pa_cons pe_str (pa_cons pe_str pa_nil))))))
    (pss_one (ps_ret (pe_tup (pa_cons (pe_op op_add_str (pe_op op_add_str (pv 4) (pe_ix (r := rIxL K) ix_list (pv 5) (pe_call G_u_law_draw (hr.mono (by omega)) rfl T.m_u_law_draw T.F_u_law_draw.kp T.b_u_law_draw .nil pass0 (pa_cons (pv 0) (pa_cons pe_int pa_nil))) (fun _ _ => rfl))) (pe_op op_mulS pe_str (pe_call G_u_law_draw (hr.mono (by omega)) rfl T.m_u_law_draw T.F_u_law_draw.kp T.b_u_law_draw .nil pass0 (pa_cons (pv 0) (pa_cons pe_int pa_nil))))) (pa_cons (pe_callB call_len_str (by rfl) T.n_len PySem.boot_len (pa_cons (pv 4) pa_nil)) pa_nil))))))) pss_nil)
    (pss_cons (ps_set (i := 4) sc_u_law_spoilt.nd rfl (Or.inl rfl) (pe_call G_u_law_text (hr.mono (by omega)) rfl T.m_u_law_text T.F_u_law_text.kp T.b_u_law_text .nil pass0 (pa_cons (pv 0) (pa_cons (pe_slice (r := rSlL K) sl_list (pv 1) po_none (po_some (pe_op op_sub (pe_callB (r := rLenS K) j_len (by rfl) T.n_len PySem.boot_len (pa_cons (pv 1) pa_nil)) pe_int))) pa_nil))))
    (pss_one (ps_ret (pe_tup (pa_cons (pv 4) (pa_cons (pe_callB call_len_str (by rfl) T.n_len PySem.boot_len (pa_cons (pv 4) pa_nil)) pa_nil))))))))), ?_⟩
  have tok := tkl_ok hn t wt
  walk_at "rd"
  refine ⟨s, l, 3, rfl, st, by decide, by decide, fun kd H1 kd0 kd1 b1 st1 => ?_⟩
  have htk1 := b1 _ _ htk tks
  walk_at "rd"
  have kd3 : kd = 0 ∨ kd = 1 ∨ kd = 2 := by omega
  rcases kd3 with rfl | rfl | rfl
  · walk_at "rd"
    refine ⟨s, l, _, rfl, st1, by rw [List.length_map, List.length_map]; omega, by rw [List.length_map, List.length_map]; omega, fun a H2 a0 a1 b2 st2 => ?_⟩
    rw [List.length_map, List.length_map] at a1
    obtain ⟨a, rfl⟩ := Int.eq_ofNat_of_zero_le a0
    have htk2 := b2 _ _ htk1 tks
    have ml : (((tkl t).map Tk.txt).map V.str).length = (tkl t).length := by rw [List.length_map, List.length_map]
    walk_at "rd"
    refine ⟨tk, _, rfl, SqL.of htk2, ?_⟩
    rw [tkcut_to _ a (by omega), ← List.map_take, ← List.map_take]
    first | intro q1 n3 | refine fun q1 n3 => ?_
    generalize ehn : upd H2 q1 _ = H3
    have s3 := J.al_same n3 ehn
    have h3 := J.al_at ehn
    clear ehn
    have q1s : q1 ≠ s := fun z => by obtain ⟨_, _, _, q⟩ := st2.lst; rw [← z, n3] at q; cases q
    walk_at "rd"
    refine ⟨s, l, q1, (tkl t).take a, rfl, st2.same s3, q1s, h3, fun k hk => tok k (List.mem_of_mem_take hk), by rw [List.length_take]; omega, fun z1 P1 H4 b4 st4 hc1 hP1 hl1 => ?_⟩
    rw [List.length_take] at hl1
    have bl : (" " : Str).length = 1 := by decide +kernel
    refine ⟨_, _, rfl, rfl, Nat.le_trans (show z1.length + (" " : Str).length ≤ 100000 by omega) (by decide), ?_⟩
    have l1 := len_app z1 (" " : Str)
    walk_at "rd"
    refine ⟨s, l, rfl, st4, fun zb wb H5 b5 st5 okb => ?_⟩
    have lb : zb.length ≤ 9 := by
      cases wb with
      | true => exact (badW_word zb okb).2.2
      | false => obtain ⟨c, _, rfl⟩ := okb; show 1 ≤ 9; decide
    refine ⟨_, _, rfl, rfl, Nat.le_trans (show (z1 ++ (" " : Str)).length + zb.length ≤ 100000 by omega) (by decide), ?_⟩
    have l2 := len_app (z1 ++ (" " : Str)) zb
    walk_at "rd"
    refine ⟨Nat.le_trans (show (z1 ++ (" " : Str) ++ zb).length + (" " : Str).length ≤ 100000 by omega) (by decide), ?_⟩
    have l3 := len_app (z1 ++ (" " : Str) ++ zb) (" " : Str)
    have htk5 := b5 _ _ (b4 _ _ (s3 _ _ htk2) tks) tks
    walk_at "rd"
    refine ⟨tk, _, rfl, SqL.of htk5, ?_⟩
    rw [tkcut_from _ a (by omega), ← List.map_drop, ← List.map_drop]
    first | intro q2 n6 | refine fun q2 n6 => ?_
    generalize ehn : upd H5 q2 _ = H6
    have s6 := J.al_same n6 ehn
    have h6 := J.al_at ehn
    clear ehn
    have q2s : q2 ≠ s := fun z => by obtain ⟨_, _, _, q⟩ := st5.lst; rw [← z, n6] at q; cases q
    walk_at "rd"
    refine ⟨s, l, q2, (tkl t).drop a, rfl, st5.same s6, q2s, h6, fun k hk => tok k (List.mem_of_mem_drop hk), by rw [List.length_drop]; omega, fun z2 P2 H7 b7 st7 hc2 hP2 hl2 => ?_⟩
    rw [List.length_drop] at hl2
    refine ⟨_, _, rfl, rfl, Nat.le_trans (show (z1 ++ (" " : Str) ++ zb ++ (" " : Str)).length + z2.length ≤ 100000 by omega) (by decide), ?_⟩
    have l4 := len_app (z1 ++ (" " : Str) ++ zb ++ (" " : Str)) z2
    walk_at "rd"
    refine ⟨Nat.le_trans (show (z1 ++ (" " : Str)).length ≤ 100000 by omega) (by decide), ?_⟩
    walk_at "rd"
    refine ⟨show 2 ≤ sizeLine by decide, ?_⟩
    first | intro p n8 | refine fun p n8 => ?_
    generalize ehn : upd H7 p _ = H8
    have s8 := J.al_same n8 ehn
    have h8 := J.al_at ehn
    clear ehn
    have lP : (lay (P1 ++ [none])).length = (z1 ++ (" " : Str)).length := by
      rw [cods_len, cods_app, hc1, blank_cods, lay_app]; rfl
    refine q p (z1 ++ (" " : Str) ++ zb ++ (" " : Str) ++ z2) (P1 ++ [none]) (some (.bd zb wb) :: none :: P2) H8 (b1.trans (b2.trans ((but_same s3).trans (b4.trans (b5.trans ((but_same s6).trans (b7.trans (but_same s8)))))))) (st7.same s8) (by rw [lP]; exact h8) ?_ ?_ ?_ (fun z => nomatch z) (by omega) ?_
    · rw [cods_app, cods_app, cods_app, cods_app, hc1, hc2, blank_cods, lay_app, lay_app]
      show ((lay P1 ++ [32]) ++ cods zb ++ [32]) ++ lay P2 = (lay P1 ++ [32]) ++ (cods zb ++ (32 :: lay P2))
      simp
    · intro k hk
      rcases List.mem_append.mp hk with m | m
      · rcases List.mem_append.mp m with m | m
        · exact tok k (List.mem_of_mem_take (by rw [← hP1]; exact List.mem_filterMap.mpr ⟨_, m, rfl⟩))
        · cases List.mem_singleton.mp m
      · rcases List.mem_cons.mp m with m | m
        · cases m; exact okb
        · rcases List.mem_cons.mp m with m | m
          · cases m
          · exact tok k (List.mem_of_mem_drop (by rw [← hP2]; exact List.mem_filterMap.mpr ⟨_, m, rfl⟩))
    · have sA : Sep P1 := sep_of P1 (by rw [hP1]; exact noAdj_take a (noAdj_tm t))
      have sB : Sep P2 := sep_of P2 (by rw [hP2]; exact noAdj_drop a (noAdj_tm t))
      rw [List.append_assoc]
      exact sep_app sA (B := none :: some (.bd zb wb) :: none :: P2) ⟨fun _ b e => (nomatch e), sB⟩ (fun b e => nomatch e)
    · have fP : (P1 ++ [none]).filterMap id = (tkl t).take a := by rw [List.filterMap_append, hP1]; exact List.append_nil _
      rw [fP]
      by_cases z : a = (tkl t).length
      · exact .inl ⟨by rw [z, List.take_length], bad_unread.2.1, bad_unread.2.2.1⟩
      · exact .inr ⟨⟨(tkl t).drop a, fun e => by have := congrArg List.length e; rw [List.length_drop] at this; have e0 : ([] : List Tk).length = 0 := rfl; omega, List.take_append_drop ..⟩, bad_unread.1, .inl bad_unread.2.2.1⟩
  · walk_at "rd"
    refine ⟨s, l, tk, tkl t, rfl, st1, tks, htk1, tok, by omega, fun z1 P1 H4 b4 st4 hc1 hP1 hl1 => ?_⟩
    have bl : (" " : Str).length = 1 := by decide +kernel
    refine ⟨_, _, rfl, rfl, Nat.le_trans (show z1.length + (" " : Str).length ≤ 100000 by omega) (by decide), ?_⟩
    have l1 := len_app z1 (" " : Str)
    walk_at "rd"
    refine ⟨show 4 ≤ sizeLine by decide, ?_⟩
    first | intro wd n5 | refine fun wd n5 => ?_
    generalize ehn : upd H4 wd _ = H5
    have s5 := J.al_same n5 ehn
    have h5 := J.al_at ehn
    clear ehn
    have st5 := st4.same s5
    have wds : wd ≠ s := fun z => by obtain ⟨_, _, _, q⟩ := st4.lst; rw [← z, n5] at q; cases q
    have h5' : H5 wd = some (.lst ((extras.map Tk.txt).map V.str)) := by rw [h5, show extras.map Tk.txt = [(")" : Str), ",", "a", "x0"] by decide +kernel]; rfl
    walk_at "rd"
    refine ⟨s, l, 4, rfl, st5, by decide, by decide, fun r H6 r0 r1 b6 st6 => ?_⟩
    obtain ⟨r, rfl⟩ := Int.eq_ofNat_of_zero_le r0
    obtain ⟨x, gx, x1, x2⟩ := extras_ok ⟨r, by omega⟩
    have okx := extra_mem (List.mem_of_getElem? gx)
    have lx : x.txt.length ≤ 9 := by
      cases hw : x.isW with
      | true => exact (tk_word okx hw).2.2
      | false =>
        have mx := List.mem_of_getElem? gx
        have mx : x ∈ [Tk.sg 41, .sg 44, .nm "a", .vr 0] := mx
        rcases List.mem_cons.mp mx with e | mx
        · rw [e]; show 1 ≤ 9; decide
        · rcases List.mem_cons.mp mx with e | mx
          · rw [e]; show 1 ≤ 9; decide
          · rcases List.mem_cons.mp mx with e | mx
            · rw [e] at hw; cases hw
            · rw [List.mem_singleton.mp mx] at hw; cases hw
    refine ⟨wd, _, _, .str x.txt, rfl, rfl, SqL.of (b6 _ _ h5' wds), atI_nat (by rw [List.getElem?_map, List.getElem?_map, gx]; rfl), ?_⟩
    refine ⟨_, _, rfl, rfl, Nat.le_trans (show (z1 ++ (" " : Str)).length + x.txt.length ≤ 100000 by omega) (by decide), ?_⟩
    have l2 := len_app (z1 ++ (" " : Str)) x.txt
    walk_at "rd"
    refine ⟨s, l, 2, rfl, st6, by decide, by decide, fun r2 H7 r20 r21 b7 st7 => ?_⟩
    obtain ⟨r2, rfl⟩ := Int.eq_ofNat_of_zero_le r20
    walk_at "rd"
    refine ⟨by omega, by decide +kernel, ?_⟩
    have m2 := mul_blank ⟨r2, by omega⟩
    have m2' : cods (Txt.mul (Str.ofString " ") ((r2 : Nat) : Int)) = List.replicate r2 32 := m2
    generalize Txt.mul (Str.ofString " ") ((r2 : Nat) : Int) = zk at m2' ⊢
    have lk : zk.length = r2 := by rw [cods_len, m2', List.length_replicate]
    have lay0 : ∀ k : Nat, lay (List.replicate k none) = List.replicate k 32 := fun k => by
      induction k with
      | zero => rfl
      | succ k ih => show 32 :: lay (List.replicate k none) = _; rw [ih]; rfl
    refine ⟨_, _, rfl, rfl, Nat.le_trans (show (z1 ++ (" " : Str) ++ x.txt).length + zk.length ≤ 100000 by omega) (by decide), ?_⟩
    have l3 := len_app (z1 ++ (" " : Str) ++ x.txt) zk
    walk_at "rd"
    refine ⟨Nat.le_trans (show (z1 ++ (" " : Str)).length ≤ 100000 by omega) (by decide), ?_⟩
    walk_at "rd"
    refine ⟨show 2 ≤ sizeLine by decide, ?_⟩
    first | intro p n8 | refine fun p n8 => ?_
    generalize ehn : upd H7 p _ = H8
    have s8 := J.al_same n8 ehn
    have h8 := J.al_at ehn
    clear ehn
    have lP : (lay (P1 ++ [none])).length = (z1 ++ (" " : Str)).length := by
      rw [cods_len, cods_app, hc1, blank_cods, lay_app]; rfl
    refine q p (z1 ++ (" " : Str) ++ x.txt ++ zk) (P1 ++ [none]) (some x :: List.replicate r2 none) H8 (b1.trans (b4.trans ((but_same s5).trans (b6.trans (b7.trans (but_same s8)))))) (st7.same s8) (by rw [lP]; exact h8) ?_ ?_ ?_ (fun z => nomatch z) (by omega) ?_
    · rw [cods_app, cods_app, cods_app, hc1, m2', blank_cods, lay_app, lay_app]
      show ((lay P1 ++ [32]) ++ cods x.txt) ++ List.replicate r2 32 = (lay P1 ++ [32]) ++ (cods x.txt ++ lay (List.replicate r2 none))
      rw [lay0]
      simp
    · intro k hk
      rcases List.mem_append.mp hk with m | m
      · rcases List.mem_append.mp m with m | m
        · exact tok k (by rw [← hP1]; exact List.mem_filterMap.mpr ⟨_, m, rfl⟩)
        · cases List.mem_singleton.mp m
      · rcases List.mem_cons.mp m with m | m
        · cases m; exact okx
        · cases (List.eq_of_mem_replicate m)
    · have sA : Sep P1 := sep_of P1 (by rw [hP1]; exact noAdj_tm t)
      rw [List.append_assoc]
      refine sep_app sA (B := none :: some x :: List.replicate r2 none) ⟨fun _ b e => ?_, sep_blanks r2⟩ (fun b e => nomatch e)
      cases r2 with
      | zero => cases e
      | succ r2 => cases e
    · have fP : (P1 ++ [none]).filterMap id = tkl t := by rw [List.filterMap_append, hP1]; exact List.append_nil _
      rw [fP]
      exact .inl ⟨rfl, x1, x2⟩
  · walk_at "rd"
    obtain ⟨A0, k, eW⟩ : ∃ A0 k, tkl t = A0 ++ [k] := by
      rcases List.eq_nil_or_concat (tkl t) with e | ⟨A0, k, e⟩
      · rcases tkl_4 t with ⟨k, e2, _⟩ | h
        · rw [e2] at e; cases e
        · rw [e] at h; cases h
      · exact ⟨A0, k, by rw [e, List.concat_eq_append]⟩
    have htkL : H1 tk = some (.lst ((A0.map Tk.txt).map V.str ++ [.str k.txt])) := by rw [htk1, eW, List.map_append, List.map_append]; rfl
    refine ⟨tk, _, -1, .str k.txt, rfl, rfl, SqL.of htkL, atI_last _ _, ?_⟩
    clear htkL
    walk_at "rd"
    show if (!decide (V.str k.txt = V.str (Str.ofString ")"))) = true then _ else _
    refine ifNeS (fun ne => ?_) (fun ek => ?_)
    · walk_at "rd"
      refine ⟨s, l, _, rfl, st1, by rw [List.length_map, List.length_map]; omega, by rw [List.length_map, List.length_map]; omega, fun a H2 a0 a1 b2 st2 => ?_⟩
      rw [List.length_map, List.length_map] at a1
      obtain ⟨a, rfl⟩ := Int.eq_ofNat_of_zero_le a0
      have htk2 := b2 _ _ htk1 tks
      have ml : (((tkl t).map Tk.txt).map V.str).length = (tkl t).length := by rw [List.length_map, List.length_map]
      walk_at "rd"
      refine ⟨tk, _, rfl, SqL.of htk2, ?_⟩
      rw [tkcut_to _ a (by omega), ← List.map_take, ← List.map_take]
      first | intro q1 n3 | refine fun q1 n3 => ?_
      generalize ehn : upd H2 q1 _ = H3
      have s3 := J.al_same n3 ehn
      have h3 := J.al_at ehn
      clear ehn
      have q1s : q1 ≠ s := fun z => by obtain ⟨_, _, _, q⟩ := st2.lst; rw [← z, n3] at q; cases q
      walk_at "rd"
      refine ⟨s, l, q1, (tkl t).take a, rfl, st2.same s3, q1s, h3, fun k hk => tok k (List.mem_of_mem_take hk), by rw [List.length_take]; omega, fun z1 P1 H4 b4 st4 hc1 hP1 hl1 => ?_⟩
      rw [List.length_take] at hl1
      have bl : (" " : Str).length = 1 := by decide +kernel
      refine ⟨_, _, rfl, rfl, Nat.le_trans (show z1.length + (" " : Str).length ≤ 100000 by omega) (by decide), ?_⟩
      have l1 := len_app z1 (" " : Str)
      walk_at "rd"
      refine ⟨s, l, rfl, st4, fun zb wb H5 b5 st5 okb => ?_⟩
      have lb : zb.length ≤ 9 := by
        cases wb with
        | true => exact (badW_word zb okb).2.2
        | false => obtain ⟨c, _, rfl⟩ := okb; show 1 ≤ 9; decide
      refine ⟨_, _, rfl, rfl, Nat.le_trans (show (z1 ++ (" " : Str)).length + zb.length ≤ 100000 by omega) (by decide), ?_⟩
      have l2 := len_app (z1 ++ (" " : Str)) zb
      walk_at "rd"
      refine ⟨Nat.le_trans (show (z1 ++ (" " : Str) ++ zb).length + (" " : Str).length ≤ 100000 by omega) (by decide), ?_⟩
      have l3 := len_app (z1 ++ (" " : Str) ++ zb) (" " : Str)
      have htk5 := b5 _ _ (b4 _ _ (s3 _ _ htk2) tks) tks
      walk_at "rd"
      refine ⟨tk, _, rfl, SqL.of htk5, ?_⟩
      rw [tkcut_from _ a (by omega), ← List.map_drop, ← List.map_drop]
      first | intro q2 n6 | refine fun q2 n6 => ?_
      generalize ehn : upd H5 q2 _ = H6
      have s6 := J.al_same n6 ehn
      have h6 := J.al_at ehn
      clear ehn
      have q2s : q2 ≠ s := fun z => by obtain ⟨_, _, _, q⟩ := st5.lst; rw [← z, n6] at q; cases q
      walk_at "rd"
      refine ⟨s, l, q2, (tkl t).drop a, rfl, st5.same s6, q2s, h6, fun k hk => tok k (List.mem_of_mem_drop hk), by rw [List.length_drop]; omega, fun z2 P2 H7 b7 st7 hc2 hP2 hl2 => ?_⟩
      rw [List.length_drop] at hl2
      refine ⟨_, _, rfl, rfl, Nat.le_trans (show (z1 ++ (" " : Str) ++ zb ++ (" " : Str)).length + z2.length ≤ 100000 by omega) (by decide), ?_⟩
      have l4 := len_app (z1 ++ (" " : Str) ++ zb ++ (" " : Str)) z2
      walk_at "rd"
      refine ⟨Nat.le_trans (show (z1 ++ (" " : Str)).length ≤ 100000 by omega) (by decide), ?_⟩
      walk_at "rd"
      refine ⟨show 2 ≤ sizeLine by decide, ?_⟩
      first | intro p n8 | refine fun p n8 => ?_
      generalize ehn : upd H7 p _ = H8
      have s8 := J.al_same n8 ehn
      have h8 := J.al_at ehn
      clear ehn
      have lP : (lay (P1 ++ [none])).length = (z1 ++ (" " : Str)).length := by
        rw [cods_len, cods_app, hc1, blank_cods, lay_app]; rfl
      refine q p (z1 ++ (" " : Str) ++ zb ++ (" " : Str) ++ z2) (P1 ++ [none]) (some (.bd zb wb) :: none :: P2) H8 (b1.trans (b2.trans ((but_same s3).trans (b4.trans (b5.trans ((but_same s6).trans (b7.trans (but_same s8)))))))) (st7.same s8) (by rw [lP]; exact h8) ?_ ?_ ?_ (fun z => nomatch z) (by omega) ?_
      · rw [cods_app, cods_app, cods_app, cods_app, hc1, hc2, blank_cods, lay_app, lay_app]
        show ((lay P1 ++ [32]) ++ cods zb ++ [32]) ++ lay P2 = (lay P1 ++ [32]) ++ (cods zb ++ (32 :: lay P2))
        simp
      · intro k hk
        rcases List.mem_append.mp hk with m | m
        · rcases List.mem_append.mp m with m | m
          · exact tok k (List.mem_of_mem_take (by rw [← hP1]; exact List.mem_filterMap.mpr ⟨_, m, rfl⟩))
          · cases List.mem_singleton.mp m
        · rcases List.mem_cons.mp m with m | m
          · cases m; exact okb
          · rcases List.mem_cons.mp m with m | m
            · cases m
            · exact tok k (List.mem_of_mem_drop (by rw [← hP2]; exact List.mem_filterMap.mpr ⟨_, m, rfl⟩))
      · have sA : Sep P1 := sep_of P1 (by rw [hP1]; exact noAdj_take a (noAdj_tm t))
        have sB : Sep P2 := sep_of P2 (by rw [hP2]; exact noAdj_drop a (noAdj_tm t))
        rw [List.append_assoc]
        exact sep_app sA (B := none :: some (.bd zb wb) :: none :: P2) ⟨fun _ b e => (nomatch e), sB⟩ (fun b e => nomatch e)
      · have fP : (P1 ++ [none]).filterMap id = (tkl t).take a := by rw [List.filterMap_append, hP1]; exact List.append_nil _
        rw [fP]
        by_cases z : a = (tkl t).length
        · exact .inl ⟨by rw [z, List.take_length], bad_unread.2.1, bad_unread.2.2.1⟩
        · exact .inr ⟨⟨(tkl t).drop a, fun e => by have := congrArg List.length e; rw [List.length_drop] at this; have e0 : ([] : List Tk).length = 0 := rfl; omega, List.take_append_drop ..⟩, bad_unread.1, .inl bad_unread.2.2.1⟩
    · have l4 : 4 ≤ (tkl t).length := by
        rcases tkl_4 t with ⟨k', e2, hw⟩ | h
        · exfalso
          rw [e2] at eW
          have ek' : k' = k := by
            cases A0 with
            | nil => exact (List.cons.inj eW).1
            | cons _ A0 => cases A0 <;> cases (List.cons.inj eW).2
          subst ek'
          have hW := (tk_word (tok k' (by rw [e2]; exact List.mem_singleton.mpr rfl)) hw).1
          have c41 : (41 : Nat) ∈ cods k'.txt := by rw [ek]; decide +kernel
          exact sign_no 41 (by decide) (hW 41 c41)
        · exact h
      have ml : (((tkl t).map Tk.txt).map V.str).length = (tkl t).length := by rw [List.length_map, List.length_map]
      walk_at "rd"
      have en : ((((((tkl t).map Tk.txt).map V.str).length : Nat) : Int)) - 1 = (((tkl t).length - 1 : Nat) : Int) := by rw [ml]; omega
      refine ⟨tk, _, rfl, SqL.of htk1, ?_⟩
      rw [en, tkcut_to _ _ (by omega), ← List.map_take, ← List.map_take]
      first | intro q1 n3 | refine fun q1 n3 => ?_
      generalize ehn : upd H1 q1 _ = H3
      have s3 := J.al_same n3 ehn
      have h3 := J.al_at ehn
      clear ehn
      have q1s : q1 ≠ s := fun z => by obtain ⟨_, _, _, q⟩ := st1.lst; rw [← z, n3] at q; cases q
      walk_at "rd"
      refine ⟨s, l, q1, (tkl t).take ((tkl t).length - 1), rfl, st1.same s3, q1s, h3, fun k hk => tok k (List.mem_of_mem_take hk), by rw [List.length_take]; omega, fun z1 P1 H4 b4 st4 hc1 hP1 hl1 => ?_⟩
      rw [List.length_take] at hl1
      walk_at "rd"
      refine ⟨Nat.le_trans (show z1.length ≤ 100000 by omega) (by decide), ?_⟩
      walk_at "rd"
      refine ⟨show 2 ≤ sizeLine by decide, ?_⟩
      first | intro p n8 | refine fun p n8 => ?_
      generalize ehn : upd H4 p _ = H8
      have s8 := J.al_same n8 ehn
      have h8 := J.al_at ehn
      clear ehn
      have lP : (lay P1).length = z1.length := by rw [cods_len, hc1]
      refine q p z1 P1 [] H8 (b1.trans ((but_same s3).trans (b4.trans (but_same s8)))) (st4.same s8) (by rw [lP]; exact h8) (by rw [List.append_nil]; exact hc1) ?_ (by rw [List.append_nil]; exact sep_of P1 (by rw [hP1]; exact noAdj_take _ (noAdj_tm t))) (fun z => nomatch z) (by omega) ?_
      · intro k hk
        rw [List.append_nil] at hk
        exact tok k (List.mem_of_mem_take (by rw [← hP1]; exact List.mem_filterMap.mpr ⟨_, hk, rfl⟩))
      · rw [hP1]
        refine .inr ⟨⟨(tkl t).drop ((tkl t).length - 1), fun e => by have := congrArg List.length e; rw [List.length_drop] at this; have e0 : ([] : List Tk).length = 0 := rfl; omega, List.take_append_drop ..⟩, bad_unread.2.2.2.1, .inr fun f e => ?_⟩
        have := congrArg List.length e
        rw [List.length_take] at this
        have e0 : [Tk.nm f].length = 1 := rfl
        omega

/-! _law_tokens -/
def sp_u_law_tokens (N : Nat) : Sp := fun vs H Q _ => ∃ (v : V) (t : Tm) (fs : List Str), vs = [v] ∧ TmIn H t v ∧ t.wf fs 20 ∧ t.sz ≤ 1000 ∧ t.dep ≤ N ∧ ∀ p H', Same H H' → H p = none → H' p = some (.lst (((tkl t).map Tk.txt).map V.str)) → Q (.ref p) H'
theorem st_u_law_tokens (T : Tx K mg A) (N : Nat) (G_u_law_tokens : FnOk P w K mg base CX0 (N + 1) A.a_u_law_tokens A.d_u_law_tokens ["term"] (sp_u_law_tokens N)) : FnOk P w K mg base CX0 (N + 2) A.a_u_law_tokens A.d_u_law_tokens ["term"] (sp_u_law_tokens (N + 1)) := by

  refine T.F_u_law_tokens.ok sc_u_law_tokens (fun vs H Q E h => ?_) (fun cdv Ar outer s0 H vs Q E hr h => ?_)
  · obtain ⟨v, t, fs, rfl, _⟩ := h; rfl
  obtain ⟨v, t, fs, rfl, ht, wt, zt, dt, q⟩ := h
  refine ⟨_, (pss_cons (ps_if (pt_val (pe_callB (r := rIsi K) call_isi (by rfl) T.n_isinstance boot_isinstance (pa_cons (pv 0) (pa_cons (pe_bltn (v := .ty "int") (by rfl) T.n_int boot_int rfl) pa_nil)))) (pss_one (ps_ret (pe_lst (pa_cons (pe_op op_add_str pe_str (pe_callTy call_str_int (by rfl) T.n_str boot_str (pa_cons (pv 0) pa_nil))) pa_nil)))) pss_nil)
    (pss_cons (ps_if (pt_cmpR op_eq (pe_callB (r := rLenS K) j_len (by rfl) T.n_len PySem.boot_len (pa_cons (pv 0) pa_nil)) pe_int (nomark _)) (pss_one (ps_ret (pe_lst (pa_cons (pe_ix (r := rIxT K) ix_tup (pv 0) pe_int (fun _ _ => rfl)) pa_nil)))) pss_nil)
    (pss_cons (ps_set (i := 1) sc_u_law_tokens.nd rfl (Or.inl rfl) (pe_lst (pa_cons (pe_ix (r := rIxT K) ix_tup (pv 0) pe_int (fun _ _ => rfl)) (pa_cons pe_str pa_nil))))
    (pss_cons (ps_for PassesOwn.never rfl (pi_range2 rfl T.n_range (pa_cons pe_int (pa_cons (pe_callB (r := rLenS K) j_len (by rfl) T.n_len PySem.boot_len (pa_cons (pv 0) pa_nil)) pa_nil))) (pg_name (i := 2) sc_u_law_tokens.nd rfl (Or.inl rfl)) (pss_cons (ps_if (pt_cmpR op_gt (pv 2) pe_int (nomark _)) (pss_one (ps_expr (pe_bm PySem.F.plainAttrs_list PySem.F.slot_list_append PySem.F.type_list_append mt_append (pv 1) (pa_cons pe_str pa_nil)))) pss_nil)
    (pss_one (ps_set (i := 1) sc_u_law_tokens.nd rfl (Or.inl rfl) (pe_op op_cat (pv 1) (pe_call G_u_law_tokens (hr.mono (by omega)) rfl T.m_u_law_tokens T.F_u_law_tokens.kp T.b_u_law_tokens .nil pass0 (pa_cons (pe_ix (r := rIxT K) ix_tup (pv 0) (pv 2) (fun _ _ => rfl)) pa_nil)))))))
    (pss_one (ps_ret (pe_op op_cat (pv 1) (pe_lst (pa_cons pe_str pa_nil))))))))), ?_⟩
  cases t with
  | var n =>
    cases (show v = .int n from ht)
    have wt : 0 ≤ n ∧ n < 20 := wt
    obtain ⟨k, rfl⟩ := Int.eq_ofNat_of_zero_le wt.1
    walk_at "rd"
    walk_at "isi"
    walk_at "rd"
    obtain ⟨_, l1, l8⟩ := tk_word (t := .vr k) (show k < 20 by omega) rfl
    refine ⟨Nat.lt_of_le_of_lt (Nat.log2_le_self _) (by omega), ?_⟩
    refine ⟨_, _, rfl, rfl, ?_, ?_⟩
    · have l8 : (("x" : Str) ++ (Str.ofString (toString ((k : Nat) : Int)))).length ≤ 9 := l8
      rw [len_app] at l8
      exact Nat.le_trans l8 (by decide)
    walk_at "rd"
    refine ⟨show 1 ≤ sizeLine by decide, ?_⟩
    first | intro p n1 | refine fun p n1 => ?_
    generalize ehn : upd H p _ = H1
    have s1 := J.al_same n1 ehn
    have h1 := J.al_at ehn
    clear ehn
    exact q p H1 s1 n1 h1
  | app f ts =>
    obtain ⟨a, vs, rfl, ha, hts⟩ := ht
    have vl := hts.length
    walk_at "rd"
    walk_at "isi"
    walk_at "rd"
    refine ifEq (fun e => ?_) (fun e => ?_)
    · have e : ((vs.length + 1 : Nat) : Int) = 1 := e
      have ets : ts = [] := List.length_eq_zero_iff.mp (by omega)
      subst ets
      walk_at "rd"
      refine ⟨show 1 ≤ sizeLine by decide, ?_⟩
      first | intro p n1 | refine fun p n1 => ?_
      generalize ehn : upd H p _ = H1
      have s1 := J.al_same n1 ehn
      have h1 := J.al_at ehn
      clear ehn
      exact q p H1 s1 n1 h1
    · have e : ((vs.length + 1 : Nat) : Int) ≠ 1 := e
      have nts : ts ≠ [] := fun z => by rw [z] at vl; exact e (by rw [vl]; rfl)
      walk_at "rd"
      refine ⟨show 2 ≤ sizeLine by decide, ?_⟩
      first | intro D0 n1 | refine fun D0 n1 => ?_
      generalize ehn : upd H D0 _ = H1
      have s1 := J.al_same n1 ehn
      have h1 := J.al_at ehn
      clear ehn
      have hz : 1 + Tm.szs ts ≤ 1000 := zt
      have ll := Tm.len_le ts
      have ha1 := s1 _ _ ha
      walk_at "rd"
      refine ⟨1, _, rfl, ⟨by decide, by decide, ?_, ?_⟩, ?_⟩
      · show -(2 ^ 62) ≤ ((vs.length + 1 : Nat) : Int); omega
      · show ((vs.length + 1 : Nat) : Int) < 2 ^ 62; omega
      have en : (((V.str f :: vs).length : Int) - 1).toNat = ts.length := by
        show (((vs.length + 1 : Nat) : Int) - 1).toNat = _
        omega
      rw [en]
      refine for_range (lo := 1) (n := ts.length) (fun i σ' H' => ∃ (D : Addr) (x : Option V), σ' = [some (.ref a), some (.ref D), x] ∧ Same H H' ∧ H D = none ∧ H' D = some (.lst (((Tk.nm f :: Tk.sg 40 :: tka (ts.take i)).map Tk.txt).map V.str))) ?_ ?_ ?_
      · exact ⟨D0, none, rfl, s1, n1, h1⟩
      · rintro i σ' H2 hi ⟨D, x, rfl, k2, nD, hD⟩
        have gt := List.getElem?_eq_getElem hi
        generalize ts[i] = t at gt
        have mt : t ∈ ts := List.mem_of_getElem? gt
        have e1 : (1 : Int) + (i : Int) = ((i + 1 : Nat) : Int) := by omega
        have et : tka (ts.take (i + 1)) = tka (ts.take i) ++ ((if ts.take i = [] then [] else [Tk.sg 44]) ++ tkl t) := by rw [list_take_succ gt]; exact tka_snoc
        have tl := tka_len (ts.take i)
        have zi := szs_take ts i
        have mz := Tm.sz_arg mt
        have tlt := tkl_len t
        dsimp only [gName]
        refine seq_join (t := tIfS _ _ _) (fun σ' H3 => σ' = [some (.ref a), some (.ref D), some (.int ((1 : Int) + (i : Int)))] ∧ Same H H3 ∧ H3 D = some (.lst ((((Tk.nm f :: Tk.sg 40 :: tka (ts.take i)) ++ (if ts.take i = [] then [] else [Tk.sg 44])).map Tk.txt).map V.str))) ?_ (fun N' cont => ?_)
        · rintro σ' H3 ⟨rfl, k3, hD3⟩
          obtain ⟨v1, gv1, hv1⟩ := (hts.tu (tu_same k3)).get' gt
          have ha3 := k3 _ _ ha
          walk_at "rd"
          refine ⟨a, _, _, v1, rfl, rfl, SqT.of ha3, by rw [e1]; exact atI_nat (j := i + 1) (by rw [List.getElem?_cons_succ]; exact gv1), ?_⟩
          walk_at "rd"
          refine ⟨v1, t, fs, rfl, hv1, Tm.wf_of_mem wt.2 mt, by omega, TmIn.dep_arg dt mt, fun r1 H4 s4 n4 h4 => ?_⟩
          refine ⟨D, r1, _, _, rfl, rfl, s4 _ _ hD3, h4, ?_, ?_⟩
          · rw [List.length_map, List.length_map, List.length_map, List.length_map, List.length_append]
            have : (if ts.take i = [] then ([] : List Tk) else [Tk.sg 44]).length ≤ 1 := by split <;> decide
            exact Nat.le_trans (show (tka (ts.take i)).length + 1 + 1 + (if ts.take i = [] then ([] : List Tk) else [Tk.sg 44]).length + (tkl t).length ≤ 10000 by omega) (by decide)
          first | intro D2 n5 | refine fun D2 n5 => ?_
          generalize ehn : upd H4 D2 _ = H5
          have s5 := J.al_same n5 ehn
          have h5 := J.al_at ehn
          clear ehn
          have k45 := s4.trans s5
          refine ⟨D2, _, rfl, k3.trans k45, (k3.trans s4).free n5, ?_⟩
          rw [h5, et, ← List.map_append, ← List.map_append]
          simp only [List.cons_append, List.append_assoc]
        · walk_at "rd"
          refine ifD (fun z => ?_) (fun z => ?_)
          · walk_at "rd"
            refine ⟨.inl ⟨rfl, _, SqL.of hD⟩, ?_⟩
            walk_at "rd"
            refine ⟨D, _, _, rfl, rfl, hD, ?_, ?_⟩
            · rw [List.length_map, List.length_map]
              exact Nat.lt_of_le_of_lt (show (tka (ts.take i)).length + 1 + 1 ≤ 10000 by omega) (by decide)
            generalize ehn : upd H2 D _ = H3
            have b3 := J.al_but ehn
            have h3 := J.al_at ehn
            clear ehn
            refine cont _ _ ⟨rfl, fun c ob ec => b3 _ _ (k2 _ _ ec) (fun z => by rw [z, nD] at ec; cases ec), ?_⟩
            rw [h3, if_neg (fun z' => (List.take_eq_nil_iff.mp z').elim (fun h9 => by have z : (1 : Int) < 1 + (i : Int) := z; omega) nts), List.map_append, List.map_append]
            rfl
          · refine cont _ _ ⟨rfl, k2, ?_⟩
            have : i = 0 := by omega
            subst this
            rw [List.take_zero, if_pos rfl, List.append_nil]
            rw [List.take_zero] at hD
            exact hD
      · rintro σ' H2 ⟨D, x, rfl, k2, nD, hD⟩
        rw [List.take_length] at hD
        have ee := tkl_tka (f := f) nts
        walk_at "rd"
        refine ⟨show 1 ≤ sizeLine by decide, ?_⟩
        first | intro r1 n3 | refine fun r1 n3 => ?_
        generalize ehn : upd H2 r1 _ = H3
        have s3 := J.al_same n3 ehn
        have h3 := J.al_at ehn
        clear ehn
        have tl := tka_len ts
        refine ⟨D, r1, _, _, rfl, rfl, s3 _ _ hD, h3, ?_, ?_⟩
        · rw [List.length_map, List.length_map]
          exact Nat.le_trans (show (tka ts).length + 1 + 1 + 1 ≤ 10000 by omega) (by decide)
        first | intro r2 n4 | refine fun r2 n4 => ?_
        generalize ehn : upd H3 r2 _ = H4
        have s4 := J.al_same n4 ehn
        have h4 := J.al_at ehn
        clear ehn
        have k34 := s3.trans s4
        refine q r2 H4 (k2.trans k34) ((k2.trans s3).free n4) ?_
        rw [h4, ee, ← List.cons_append, ← List.cons_append, List.map_append, List.map_append]
        rfl

theorem all_u_law_tokens (T : Tx K mg A) : ∀ N : Nat, FnOk P w K mg base CX0 (N + 1) A.a_u_law_tokens A.d_u_law_tokens ["term"] (sp_u_law_tokens N)
  | 0 => fn_none fun vs H Q E h => by obtain ⟨v, t, fs, _, _, _, _, hd, _⟩ := h; have := t.dep_pos; omega
  | N + 1 => st_u_law_tokens T N (all_u_law_tokens T N)
theorem ok_u_law_tokens (T : Tx K mg A) : FnOk P w K mg base CX0 41 A.a_u_law_tokens A.d_u_law_tokens ["term"] (sp_u_law_tokens 40) := all_u_law_tokens T 40

/-! Malformed.__init__ -/
def sp_Malformed___init (K : PySem.W.Frag) (C : Addr) : Sp := fun vs H Q _ => ∃ (a : Addr) (n : Int), vs = [.ref a, .int n] ∧ OexC K C ∧ PySem.W.findIn K (.ref C) "index" = some none ∧ H a = some (exo a C none) ∧ ∀ dx, H dx = none → dx ≠ a → Q .non (upd (upd H dx (exd dx [("index", .int n)])) a (exo a C (some dx)))
theorem ok_Malformed___init (T : Tx K mg A) : FnOk P w K mg base CX0 1 A.a_Malformed___init A.d_Malformed___init ["self", "index"] (sp_Malformed___init K A.c_Malformed) := by
  refine T.F_Malformed___init.ok sc_Malformed___init (fun vs H Q E h => ?_) (fun cdv Ar outer s0 H vs Q E hr h => ?_)
  · obtain ⟨a, n, rfl, _⟩ := h; rfl
  obtain ⟨a, n, rfl, oC, nf, ha, q⟩ := h
  refine ⟨_, (pss_one (ps_ost (pv 0) (pv 1))), ?_⟩
  walk_at "rd"
  exact ⟨a, _, rfl, oC, nf, .inl ⟨ha, fun dx hd hne => q dx hd hne⟩⟩

/-! Tokens.take -/
def sp_Tokens_take (C B : Addr) : Sp := fun vs H Q E => ∃ (p dx r kk : Addr) (i : Nat) (ws : List V) (rs : List Rw) (x : Rw) (ks : List Str), vs = [.ref p, .ref kk] ∧ H p = some (.ins C dx [("_rows", .ref r), ("_at", .int (i : Int))]) ∧ H r = some (.lst ws) ∧ RwsIn H ws rs ∧ rs[i]? = some x ∧ H kk = some (.tup (ks.map V.str)) ∧
  (x.kd ∈ ks → ∀ y H', But p H H' → H' p = some (.ins C dx [("_rows", .ref r), ("_at", .int ((i + 1 : Nat) : Int))]) → H' y = some (.tup [.str x.kd, .str x.wd]) → Q (.ref y) H') ∧
  (x.kd ∉ ks → ∀ d H', Same H H' → H' d = some (.xd [("index", .int (x.ix : Int))]) → E (.ref B) (some d) H')
theorem ok_Tokens_take (T : Tx K mg A) : FnOk P w K mg base (L2N.CX P w) 4 A.a_Tokens_take A.d_Tokens_take ["self", "kinds"] (sp_Tokens_take A.c_Tokens A.c_Malformed) := by
  have G_Malformed___init := ok_Malformed___init (P := P) (w := w) (base := base) T
  refine okN T.F_Tokens_take sc_Tokens_take (fun vs H Q E h => ?_) (fun cdv Ar outer s0 H vs Q E hr h => ?_)
  · obtain ⟨p, dx, r, kk, i, ws, rs, x, ks, rfl, _⟩ := h; rfl
  obtain ⟨p, dx, r, kk, i, ws, rs, x, ks, rfl, hp, hr', hw, gx, hk, q, qe⟩ := h
  refine ⟨_, (pss_cons (ps_asg (pe_ix (r := rIxL K) ix_list (pe_fld (pv 0) rfl) (pe_fld (pv 0) rfl) (fun _ _ => rfl)) (pg_tup (by rfl) (pgs_cons (pg_name (i := 2) sc_Tokens_take.nd rfl (Or.inl rfl)) (pgs_cons (pg_name (i := 3) sc_Tokens_take.nd rfl (Or.inl rfl)) (pgs_cons (pg_name (i := 4) sc_Tokens_take.nd rfl (Or.inl rfl)) pgs_nil)))))
    (pss_cons (ps_if (pt_cmpR (r := rIn K true) op_notIn_seq (pv 2) (pv 1) rfl) (pss_one (L2N.ps_raise rfl (L2N.takes_of rfl rfl rfl rfl) (pmkN_oex T.E_Malformed.oC T.E_Malformed.iC T.E_Malformed.tI G_Malformed___init (hr.mono (by omega)) T.b_Malformed___init rfl T.E_Malformed.gC (pa_cons (pv 4) pa_nil)))) pss_nil)
    (pss_cons (ps_fldaug (pv 0) pe_int in_add)
    (pss_one (ps_ret (pe_tup (pa_cons (pv 2) (pa_cons (pv 3) pa_nil)))))))), ?_⟩
  obtain ⟨w1, gw, a, rfl, ha⟩ := hw.get gx
  walk_at "rd"
  refine ⟨p, _, dx, _, _, rfl, hp, T.K_Tokens, T.N_Tokens__rows, tk_rows _ _, ?_⟩
  walk_at "rd"
  refine ⟨p, _, dx, _, _, rfl, hp, T.K_Tokens, T.N_Tokens__at, tk_at _ _, ?_⟩
  walk_at "rd"
  refine ⟨r, ws, _, _, rfl, rfl, SqL.of hr', atI_nat gw, ?_⟩
  refine ⟨a, _, rfl, SqT.of ha, rfl, _, _, rfl, _, _, rfl, _, _, rfl, rfl, ?_⟩
  dsimp only
  walk_at "rd"
  refine ⟨by rw [List.all_map]; exact List.all_eq_true.mpr fun _ _ => rfl, _, rfl, ?_⟩
  show if (!inV (.str x.kd) (ks.map V.str)) = true then _ else _
  by_cases mk : x.kd ∈ ks
  · have q := q mk
    rw [inV_strs, decide_eq_true mk, if_neg (by decide)]
    dsimp only [tNext]
    walk_at "rd"
    refine ⟨p, _, dx, _, _, rfl, hp, T.K_Tokens, T.N_Tokens__at, tk_at _ _, ?_⟩
    walk_at "rd"
    refine ⟨_, _, hp, (by show 2 < 1000; decide), ?_⟩
    rw [tk_put]
    generalize ehn : upd H p _ = H1
    have b1 := J.al_but ehn
    have h1 := J.al_at ehn
    clear ehn
    walk_at "rd"
    refine ⟨show 2 ≤ sizeLine by decide, ?_⟩
    first | intro y n2 | refine fun y n2 => ?_
    generalize ehn : upd H1 y _ = H2
    have s2 := J.al_same n2 ehn
    have h2 := J.al_at ehn
    clear ehn
    exact q y H2 (But.trans b1 (but_same s2)) (s2 _ _ h1) h2
  · have qe := qe mk
    rw [inV_strs, decide_eq_false mk, if_pos (by decide)]
    walk_at "rd"
    refine ⟨show 1 ≤ 1000 by decide, fun c nc => ?_⟩
    refine ⟨c, (x.ix : Int), rfl, T.E_Malformed.oC, T.nf_index, upd_same, fun dx hd hne => ⟨rfl, dx, [("index", .int (x.ix : Int))], upd_same, ?_, ?_, ?_⟩⟩
    · rw [upd_ne hne, upd_same]
    · rw [upd_ne hne] at hd; exact hd
    · rw [upd_ne hne] at hd
      refine qe dx _ (fun b ob eb => ?_) upd_same
      have bc : b ≠ c := fun z => by rw [z, nc] at eb; cases eb
      have bd : b ≠ dx := fun z => by rw [z, hd] at eb; cases eb
      rw [upd_ne bd, del_ne bc, upd_ne bc, upd_ne bd, upd_ne bc]
      exact eb

/-! Tokens.kind -/
def sp_Tokens_kind (C : Addr) : Sp := fun vs H Q _ => ∃ (p dx r : Addr) (i : Nat) (ws : List V) (rs : List Rw) (x : Rw), vs = [.ref p] ∧ H p = some (.ins C dx [("_rows", .ref r), ("_at", .int (i : Int))]) ∧ H r = some (.lst ws) ∧ RwsIn H ws rs ∧ rs[i]? = some x ∧ Q (.str x.kd) H
theorem ok_Tokens_kind (T : Tx K mg A) : FnOk P w K mg base CX0 1 A.a_Tokens_kind A.d_Tokens_kind ["self"] (sp_Tokens_kind A.c_Tokens) := by

  refine T.F_Tokens_kind.ok sc_Tokens_kind (fun vs H Q E h => ?_) (fun cdv Ar outer s0 H vs Q E hr h => ?_)
  · obtain ⟨p, dx, r, i, ws, rs, x, rfl, _⟩ := h; rfl
  obtain ⟨p, dx, r, i, ws, rs, x, rfl, hp, hr', hw, gx, q⟩ := h
  refine ⟨_, (pss_one (ps_ret (pe_ix (r := rIxT K) ix_tup (pe_ix (r := rIxL K) ix_list (pe_fld (pv 0) rfl) (pe_fld (pv 0) rfl) (fun _ _ => rfl)) pe_int (fun _ _ => rfl)))), ?_⟩
  obtain ⟨w1, gw, a, rfl, ha⟩ := hw.get gx
  walk_at "rd"
  refine ⟨p, _, dx, _, _, rfl, hp, T.K_Tokens, T.N_Tokens__rows, tk_rows _ _, ?_⟩
  walk_at "rd"
  refine ⟨p, _, dx, _, _, rfl, hp, T.K_Tokens, T.N_Tokens__at, tk_at _ _, ?_⟩
  walk_at "rd"
  refine ⟨r, ws, _, _, rfl, rfl, SqL.of hr', atI_nat gw, ?_⟩
  walk_at "rd"
  exact q

/-! _read_part -/
def sp_u_read_part (C B : Addr) (N : Nat) : Sp := fun vs H Q E => ∃ (p dx r : Addr) (i : Nat) (ws : List V) (rs : List Rw) (t : Tm) (x : Rw) (T : List Tk) (fs : List Str), vs = [.ref p] ∧ TkAt C H p dx r i ws rs ∧ At rs i T x ∧ t.wf fs 20 ∧ fs.length ≤ 5 ∧ t.dep ≤ N ∧
  ((T = tkl t ∧ x.kd ≠ ("(" : Str)) ∨ (Pre T (tkl t) ∧ BadK x.kd)) ∧
  (∀ v H', But p H H' → TkAt C H' p dx r (i + T.length) ws rs → (T = tkl t → TmIn H' t v) → (Pre T (tkl t) → ∃ f, T = [.nm f]) → Q v H') ∧
  (Pre T (tkl t) → ∀ d H', But p H H' → H' d = some (.xd [("index", .int (x.ix : Int))]) → E (.ref B) (some d) H')
theorem st_u_read_part (T : Tx K mg A) (N : Nat) (G_u_read_part : FnOk P w K mg base (L2N.CX P w) (N + 5) A.a_u_read_part A.d_u_read_part ["tokens"] (sp_u_read_part A.c_Tokens A.c_Malformed N)) : FnOk P w K mg base (L2N.CX P w) (N + 6) A.a_u_read_part A.d_u_read_part ["tokens"] (sp_u_read_part A.c_Tokens A.c_Malformed (N + 1)) := by
  have G_Tokens_kind := ok_Tokens_kind (P := P) (w := w) (base := base) T
  have G_Tokens_take := ok_Tokens_take (P := P) (w := w) (base := base) T
  obtain ⟨tk_MAX_ARITY, c_MAX_ARITY⟩ := T.c_MAX_ARITY
  obtain ⟨tk_NAME, c_NAME⟩ := T.c_NAME
  obtain ⟨tk_VARIABLE, c_VARIABLE⟩ := T.c_VARIABLE
  refine okN T.F_u_read_part sc_u_read_part (fun vs H Q E h => ?_) (fun cdv Ar outer s0 H vs Q E hr h => ?_)
  · obtain ⟨p, dx, r, i, ws, rs, t, x, T', fs, rfl, _⟩ := h; rfl
  obtain ⟨p, dx, r, i, ws, rs, t, x, W, fs, rfl, hT, ha, wt, f5, dt, md, qv, qe⟩ := h
  refine ⟨_, (pss_cons (ps_asg (pe_meth (pv 0) T.K_Tokens T.H_Tokens_take G_Tokens_take (hr.mono (by omega)) T.b_Tokens_take .nil (L2N.passes_call (L2N.takes_of rfl rfl rfl rfl) fun _ _ _ _ h => h) (pa_cons (pe_tup (pa_cons (pe_glob (v := .str "name") rfl c_NAME ⟨_, rfl⟩) (pa_cons (pe_glob (v := .str "variable") rfl c_VARIABLE ⟨_, rfl⟩) pa_nil))) pa_nil)) (pg_tup (by rfl) (pgs_cons (pg_name (i := 1) sc_u_read_part.nd rfl (Or.inl rfl)) (pgs_cons (pg_name (i := 2) sc_u_read_part.nd rfl (Or.inl rfl)) pgs_nil))))
    (pss_cons (ps_if (pt_cmpR op_eq (pv 1) (pe_glob (v := .str "variable") rfl c_VARIABLE ⟨_, rfl⟩) (nomark _)) (pss_one (ps_ret (pe_callTy call_int_str (by rfl) T.n_int boot_int (pa_cons (pe_slice sl_str (pv 2) (po_some pe_int) po_none) pa_nil)))) pss_nil)
    (pss_cons (ps_set (i := 3) sc_u_read_part.nd rfl (Or.inl rfl) (pe_lst (pa_cons (pv 2) pa_nil)))
    (pss_cons (ps_if (pt_cmpR op_eq (pe_meth0 (pv 0) T.K_Tokens T.H_Tokens_kind G_Tokens_kind (hr.mono (by omega)) T.b_Tokens_kind .nil pass0) pe_str (nomark _)) (pss_cons (ps_expr (pe_meth (pv 0) T.K_Tokens T.H_Tokens_take G_Tokens_take (hr.mono (by omega)) T.b_Tokens_take .nil (L2N.passes_call (L2N.takes_of rfl rfl rfl rfl) fun _ _ _ _ h => h) (pa_cons (pe_tup (pa_cons pe_str pa_nil)) pa_nil)))
    (pss_cons (ps_expr (pe_bm PySem.F.plainAttrs_list PySem.F.slot_list_append PySem.F.type_list_append mt_append (pv 3) (pa_cons (pe_call G_u_read_part (hr.mono (by omega)) rfl T.m_u_read_part T.F_u_read_part.kp T.b_u_read_part .nil (L2N.passes_call (L2N.takes_of rfl rfl rfl rfl) fun _ _ _ _ h => h) (pa_cons (pv 0) pa_nil)) pa_nil)))
    (pss_cons (ps_while (passes_of rfl) (PW.pt (pw_and (pt_cmpR op_eq (pe_meth0 (pv 0) T.K_Tokens T.H_Tokens_kind G_Tokens_kind (hr.mono (by omega)) T.b_Tokens_kind .nil pass0) pe_str (nomark _)) (pw_and1 (pt_cmpR op_le (pe_callB (r := rLenS K) j_len (by rfl) T.n_len PySem.boot_len (pa_cons (pv 3) pa_nil)) (pe_glob (v := .int 3) rfl c_MAX_ARITY ⟨_, rfl⟩) (nomark _))))) (pss_cons (ps_expr (pe_meth (pv 0) T.K_Tokens T.H_Tokens_take G_Tokens_take (hr.mono (by omega)) T.b_Tokens_take .nil (L2N.passes_call (L2N.takes_of rfl rfl rfl rfl) fun _ _ _ _ h => h) (pa_cons (pe_tup (pa_cons pe_str pa_nil)) pa_nil)))
    (pss_one (ps_expr (pe_bm PySem.F.plainAttrs_list PySem.F.slot_list_append PySem.F.type_list_append mt_append (pv 3) (pa_cons (pe_call G_u_read_part (hr.mono (by omega)) rfl T.m_u_read_part T.F_u_read_part.kp T.b_u_read_part .nil (L2N.passes_call (L2N.takes_of rfl rfl rfl rfl) fun _ _ _ _ h => h) (pa_cons (pv 0) pa_nil)) pa_nil))))))
    (pss_one (ps_expr (pe_meth (pv 0) T.K_Tokens T.H_Tokens_take G_Tokens_take (hr.mono (by omega)) T.b_Tokens_take .nil (L2N.passes_call (L2N.takes_of rfl rfl rfl rfl) fun _ _ _ _ h => h) (pa_cons (pe_tup (pa_cons pe_str pa_nil)) pa_nil))))))) pss_nil)
    (pss_one (ps_ret (pe_callTy (r := rTupS K) j_tuple (by rfl) T.n_tuple boot_tuple (pa_cons (pv 3) pa_nil)))))))), ?_⟩
  have hp0 := hT.1
  walk_at "rd"
  refine ⟨p, dx, _, rfl, hp0, tk_no _ _ (by decide +kernel) (by decide +kernel), ?_⟩
  walk_at "rd"
  refine ⟨show 2 ≤ sizeLine by decide, ?_⟩
  first | intro kk n1 | refine fun kk n1 => ?_
  generalize ehn : upd H kk _ = H1
  have s1 := J.al_same n1 ehn
  have h1 := J.al_at ehn
  clear ehn
  have hT1 := hT.same s1
  walk_at "rd"
  cases W with
  | nil =>
    have hx := ha.nil
    have mb : Pre [] (tkl t) ∧ BadK x.kd := by
      rcases md with ⟨e, _⟩ | h
      · cases t with
        | var n => cases e
        | app f ts => cases ts <;> cases e
      · exact h
    have nx := mb.2.nv
    exact ⟨p, dx, r, kk, i, ws, rs, x, ["name", "variable"], rfl, hT1.1, hT1.2.1, hT1.2.2.1, hx, h1, fun m => absurd m nx, fun _ d H2 s2 hd => qe mb.1 d H2 ((but_same s1).trans (but_same s2)) hd⟩
  | cons k W1 =>
    obtain ⟨⟨y1, gy1, ek1, ew1⟩, ha1⟩ := ha.cons
    cases t with
    | var n =>
      have md1 : k = .vr n.toNat ∧ W1 = [] := by
        rcases md with ⟨e, _⟩ | ⟨h, _⟩
        · have e : k :: W1 = [Tk.vr n.toNat] := e
          injection e with e1 e2
          exact ⟨e1, e2⟩
        · obtain ⟨_, S, n', e⟩ := pre_cons (w := .vr n.toNat) (W := []) h
          cases S with
          | nil => exact absurd rfl n'
          | cons _ _ => cases W1 <;> cases e
      obtain ⟨rfl, rfl⟩ := md1
      refine ⟨p, dx, r, kk, i, ws, rs, y1, ["name", "variable"], rfl, hT1.1, hT1.2.1, hT1.2.2.1, gy1, h1, fun _ y H2 b2 hp2 hy => ?_, fun m => absurd (by rw [ek1]; exact List.mem_cons_of_mem _ (List.mem_cons_self ..)) m⟩
      rw [ek1, ew1] at hy
      refine ⟨y, _, rfl, SqT.of hy, rfl, _, _, rfl, _, _, rfl, rfl, ?_⟩
      have wt : 0 ≤ n ∧ n < 20 := wt
      obtain ⟨k, rfl⟩ := Int.eq_ofNat_of_zero_le wt.1
      have k20 : k < 20 := by omega
      obtain ⟨v1, v2, v3, v4, v5⟩ := var_word ⟨k, k20⟩
      dsimp only at v1 v2 v3 v4 v5
      dsimp only
      walk_at "rd"
      obtain ⟨_, l1, l8⟩ := tk_word (t := .vr k) k20 rfl
      refine ⟨Nat.le_trans l8 (by decide), ?_⟩
      refine ⟨_, ((k : Nat) : Int), rfl, v4, Nat.le_trans v3 (by decide), ?_⟩
      walk_at "rd"
      have hT2 := hT1.but b2 hp2
      exact qv _ H2 ((but_same s1).trans b2) hT2 (fun _ => rfl) fun h => (pre_irr h).elim
    | app f ts =>
      have ekf : k = .nm f := by
        rcases md with ⟨e, _⟩ | ⟨h, _⟩
        · cases ts <;> (injection e)
        · cases ts with
          | nil => exact (pre_cons (w := .nm f) (W := []) h).1
          | cons t0 ts => exact (pre_cons (w := .nm f) (W := .sg 40 :: (tkl t0 ++ tkls ts)) h).1
      subst ekf
      refine ⟨p, dx, r, kk, i, ws, rs, y1, ["name", "variable"], rfl, hT1.1, hT1.2.1, hT1.2.2.1, gy1, h1, fun _ y H2 b2 hp2 hy => ?_, fun m => absurd (by rw [ek1]; exact List.mem_cons_self ..) m⟩
      have hT2 := hT1.but b2 hp2
      rw [ek1, ew1] at hy
      refine ⟨y, _, rfl, SqT.of hy, rfl, _, _, rfl, _, _, rfl, rfl, ?_⟩
      dsimp only
      walk_at "rd"
      refine ⟨show 1 ≤ sizeLine by decide, ?_⟩
      first | intro ps n3 | refine fun ps n3 => ?_
      generalize ehn : upd H2 ps _ = H3
      have s3 := J.al_same n3 ehn
      have h3 := J.al_at ehn
      clear ehn
      have hT3 := hT2.same s3
      have hp3 := hT3.1
      have b03 : But p H H3 := (but_same s1).trans (b2.trans (but_same s3))
      walk_at "rd"
      refine ⟨p, dx, _, rfl, hp3, tk_no _ _ (by decide +kernel) (by decide +kernel), ?_⟩
      cases W1 with
      | nil =>
        have hx := ha1.nil
        have nk : x.kd ≠ ("(" : Str) := by
          rcases md with ⟨_, h⟩ | ⟨_, h⟩
          · exact h
          · exact h.op
        refine ⟨p, dx, r, i + 1, ws, rs, x, rfl, hp3, hT3.2.1, hT3.2.2.1, hx, ?_⟩
        walk_at "rd"
        refine ifEqS (fun e => absurd e nk) (fun _ => ?_)
        walk_at "rd"
        refine ⟨ps, _, rfl, .inl ⟨SqL.of h3, ?_⟩⟩
        first | intro l n4 | refine fun l n4 => ?_
        generalize ehn : upd H3 l _ = H4
        have s4 := J.al_same n4 ehn
        have h4 := J.al_at ehn
        clear ehn
        refine qv (.ref l) H4 (b03.trans (but_same s4)) (hT3.same s4) (fun e => ?_) fun _ => ⟨f, rfl⟩
        cases ts with
        | nil => exact ⟨l, [], rfl, h4, rfl⟩
        | cons t0 ts => cases e
      | cons k2 W2 =>
        obtain ⟨⟨y2, gy2, ek2, ew2⟩, ha2⟩ := ha1.cons
        cases ts with
        | nil =>
          exfalso
          rcases md with ⟨e, _⟩ | ⟨h, _⟩
          · have e : Tk.nm f :: k2 :: W2 = [Tk.nm f] := e
            cases (List.cons.inj e).2
          · obtain ⟨_, S, n', e⟩ := pre_cons (w := .nm f) (W := []) h
            cases S with
            | nil => exact n' rfl
            | cons _ _ => cases e
        | cons t0 ts =>
          have md2 : k2 = .sg 40 ∧ ((W2 = tkl t0 ++ tkls ts ∧ x.kd ≠ ("(" : Str)) ∨ (Pre W2 (tkl t0 ++ tkls ts) ∧ BadK x.kd)) := by
            rcases md with ⟨e, nk⟩ | ⟨h, hb⟩
            · have e : Tk.nm f :: k2 :: W2 = Tk.nm f :: Tk.sg 40 :: (tkl t0 ++ tkls ts) := e
              have e := (List.cons.inj e).2
              exact ⟨(List.cons.inj e).1, .inl ⟨(List.cons.inj e).2, nk⟩⟩
            · have h := (pre_cons (w := .nm f) (W := .sg 40 :: (tkl t0 ++ tkls ts)) h).2
              exact ⟨(pre_cons h).1, .inr ⟨(pre_cons h).2, hb⟩⟩
          obtain ⟨rfl, md2⟩ := md2
          have ew : (Tk.nm f :: Tk.sg 40 :: W2 = tkl (.app f (t0 :: ts))) → W2 = tkl t0 ++ tkls ts := fun e => by
            have e : Tk.nm f :: Tk.sg 40 :: W2 = Tk.nm f :: Tk.sg 40 :: (tkl t0 ++ tkls ts) := e
            exact (List.cons.inj (List.cons.inj e).2).2
          have qe2 : Pre W2 (tkl t0 ++ tkls ts) → ∀ d H', But p H H' → H' d = some (.xd [("index", .int (x.ix : Int))]) → E (.ref A.c_Malformed) (some d) H' := fun ⟨S, n', e⟩ => qe ⟨S, n', by
            show Tk.nm f :: Tk.sg 40 :: (W2 ++ S) = Tk.nm f :: Tk.sg 40 :: (tkl t0 ++ tkls ts)
            rw [e]⟩
          have lw : (Tk.nm f :: Tk.sg 40 :: W2).length = W2.length + 2 := rfl
          rw [lw] at qv
          have wts : Tm.wf fs 20 t0 ∧ Tm.wfs fs 20 ts := wt.2
          have ar3 : ts.length ≤ 2 := by
            obtain ⟨⟨k, hk1, hk⟩, _⟩ := wt
            have hk1 := (List.getElem?_eq_some_iff.mp hk1).1
            have : (t0 :: ts).length ≤ 3 := by rw [hk]; unfold ar; split <;> omega
            exact Nat.le_of_succ_le_succ this
          have ek2 : y2.kd = ("(" : Str) := ek2.trans (by decide +kernel)
          refine ⟨p, dx, r, i + 1, ws, rs, y2, rfl, hp3, hT3.2.1, hT3.2.2.1, gy2, ?_⟩
          rw [ek2]
          walk_at "rd"
          refine ⟨p, dx, _, rfl, hp3, tk_no _ _ (by decide +kernel) (by decide +kernel), ?_⟩
          walk_at "rd"
          refine ⟨show 1 ≤ sizeLine by decide, ?_⟩
          first | intro k1 n4 | refine fun k1 n4 => ?_
          generalize ehn : upd H3 k1 _ = H4
          have s4 := J.al_same n4 ehn
          have h4 := J.al_at ehn
          clear ehn
          have hT4 := hT3.same s4
          walk_at "rd"
          refine ⟨p, dx, r, k1, i + 1, ws, rs, y2, ["("], rfl, hT4.1, hT4.2.1, hT4.2.2.1, gy2, h4, fun _ y5 H5 b5 hp5 hy5 => ?_, fun m => absurd (by rw [ek2]; exact List.mem_cons_self ..) m⟩
          have hT5 := hT4.but b5 hp5
          have psp : ps ≠ p := fun z => by rw [z, hT2.1] at n3; cases n3
          have hps5 := b5 _ _ (s4 _ _ h3) psp
          have rps : r ≠ ps := fun z => by rw [← z, hT2.2.1] at n3; cases n3
          have b05 : But p H H5 := b03.trans ((but_same s4).trans b5)
          have psH : H ps = none := by
            cases e : H ps with
            | none => rfl
            | some ob => rw [b2 _ _ (s1 _ _ e) psp] at n3; cases n3
          obtain ⟨T0, x0, U, ha0, md0, haU, lenU, stU, hE⟩ := split_at ha2 md2
          walk_at "rd"
          refine ⟨.inl ⟨rfl, _, SqL.of hps5⟩, ?_⟩
          walk_at "rd"
          refine ⟨p, dx, r, i + 2, ws, rs, t0, x0, T0, fs, rfl, hT5, ha0, wts.1, f5, TmIn.dep_arg dt (List.mem_cons_self ..), md0, fun v H6 b6 hT6 hv _ => ?_, fun hp d H6 b6 hd => ?_⟩
          rotate_left
          · obtain ⟨h1', h2'⟩ := hE hp
            rw [h2'] at hd
            exact qe2 h1' d H6 (b05.trans b6) hd
          have hps6 := b6 _ _ hps5 psp
          refine ⟨ps, _, _, rfl, rfl, hps6, (by show 1 < sizeLine; decide), ?_⟩
          generalize ehn : upd H6 ps _ = H7
          have b7 := J.al_but ehn
          have h7 := J.al_at ehn
          clear ehn
          have tb7 := but_tu b7 (lst_not_tup hps6)
          have hT7 : TkAt A.c_Tokens H7 p dx r (i + 2 + T0.length) ws rs := ⟨b7 _ _ hT6.1 psp.symm, b7 _ _ hT6.2.1 rps, hT6.2.2.1.tu tb7, hT6.2.2.2⟩
          have f7 : ∀ a ob, H a = some ob → a ≠ p → H7 a = some ob := fun a ob e ne => b7 _ _ (b6 _ _ (b05 _ _ e ne) ne) fun z => by rw [z, psH] at e; cases e
          dsimp only
          let ST : Hp → Nat → Nat → List Tk → List V → Prop := fun Hn j e U vs => Hn ps = some (.lst (.str f :: vs)) ∧ vs.length ≤ j + 1 ∧ TkAt A.c_Tokens Hn p dx r e ws rs ∧ At rs e U x ∧ e + U.length = i + (W2.length + 2) ∧ ((U = tkls (ts.drop j) ∧ W2 = tkl t0 ++ tkls ts ∧ x.kd ≠ ("(" : Str) ∧ TmsIn Hn (t0 :: ts.take j) vs) ∨ (Pre W2 (tkl t0 ++ tkls ts) ∧ BadK x.kd ∧ (Pre U (tkls (ts.drop j)) ∨ U = []))) ∧ (∀ a ob, H a = some ob → a ≠ p → Hn a = some ob)
          let PW : Nat → L2.St → Hp → Prop := fun m σ Hn => ∃ (j e : Nat) (U : List Tk) (vs : List V), j ≤ ts.length ∧ m = ts.length - j ∧ σ = [some (.ref p), some (.str (Tk.nm f).kd), some (.str f), some (.ref ps)] ∧ ST Hn j e U vs
          refine seq_join (t := tWhile _ _) (fun σ' H' => ∃ (e : Nat) (U : List Tk) (vs : List V), σ' = [some (.ref p), some (.str (Tk.nm f).kd), some (.str f), some (.ref ps)] ∧ H' ps = some (.lst (.str f :: vs)) ∧ TkAt A.c_Tokens H' p dx r e ws rs ∧ At rs e U x ∧ e + U.length = i + (W2.length + 2) ∧ ((U = [.sg 41] ∧ W2 = tkl t0 ++ tkls ts ∧ TmsIn H' (t0 :: ts) vs) ∨ (U = [] ∧ Pre W2 (tkl t0 ++ tkls ts) ∧ BadK x.kd)) ∧ (∀ a ob, H a = some ob → a ≠ p → H' a = some ob)) ?_ (fun N2 cont2 => ?_)
          · rintro σ' H8 ⟨e, U8, vs, rfl, hps8, hT8, ha8, he8, hst, f8⟩
            walk_at "rd"
            refine ⟨p, dx, _, rfl, hT8.1, tk_no _ _ (by decide +kernel) (by decide +kernel), ?_⟩
            walk_at "rd"
            refine ⟨show 1 ≤ sizeLine by decide, ?_⟩
            first | intro k2 n9 | refine fun k2 n9 => ?_
            generalize ehn : upd H8 k2 _ = H9
            have s9 := J.al_same n9 ehn
            have h9 := J.al_at ehn
            clear ehn
            have hT9 := hT8.same s9
            walk_at "rd"
            rcases hst with ⟨rfl, eW, hvs⟩ | ⟨rfl, hpre, hb⟩
            · obtain ⟨⟨x9, gx9, ek9, _⟩, _⟩ := ha8.cons
              have ek9 : x9.kd = (")" : Str) := ek9.trans (by decide +kernel)
              refine ⟨p, dx, r, k2, e, ws, rs, x9, [")"], rfl, hT9.1, hT9.2.1, hT9.2.2.1, gx9, h9, fun _ y9 H10 b10 hp10 hy10 => ?_, fun m => absurd (by rw [ek9]; exact List.mem_cons_self ..) m⟩
              have hT10 := hT9.but b10 hp10
              have hps10 := b10 _ _ (s9 _ _ hps8) psp
              have t10 : Tu H8 H10 := (tu_same s9).trans (ins_tu hT9.1 b10)
              walk_at "rd"
              refine ⟨ps, _, rfl, .inl ⟨SqL.of hps10, ?_⟩⟩
              first | intro l n11 | refine fun l n11 => ?_
              generalize ehn : upd H10 l _ = H11
              have s11 := J.al_same n11 ehn
              have h11 := J.al_at ehn
              clear ehn
              have he8 : e + 1 = i + (W2.length + 2) := he8
              refine qv (.ref l) H11 (fun a ob ea ne => s11 _ _ (b10 _ _ (s9 _ _ (f8 a ob ea ne)) ne)) ?_ (fun _ => ⟨l, vs, rfl, h11, (hvs.tu t10).tu (tu_same s11)⟩) fun h => (by rw [eW] at h; exact (pre_irr (T := tkl (.app f (t0 :: ts))) h).elim)
              rw [← he8]
              exact hT10.same s11
            · have hx := ha8.nil
              exact ⟨p, dx, r, k2, e, ws, rs, x, [")"], rfl, hT9.1, hT9.2.1, hT9.2.2.1, hx, h9, fun m => absurd m hb.cl, fun _ d H10 s10 hd => qe2 hpre d H10 (fun a ob ea ne => s10 _ _ (s9 _ _ (f8 a ob ea ne))) hd⟩
          · refine while_by (fun σ H => ∃ m, PW m σ H) (mu PW) ⟨ts.length, 0, _, U, [v], Nat.zero_le _, rfl, rfl, h7, Nat.le_refl _, hT7, haU, by omega, ?_, f7⟩ (fun σv Hv pv => ?_) ?_
            · rcases stU with ⟨e1, e2, e3, nk⟩ | ⟨h1', h2', h3'⟩
              · exact .inl ⟨e2, e3, nk, TmsIn.one ((hv e1).tu tb7)⟩
              · exact .inr ⟨h1', h2', h3'⟩
            · obtain ⟨j, e, U8, vs, jl, em, rfl, hps8, vl, hT8, ha8, he8, st8, f8⟩ := mu_at pv
              generalize mu PW _ _ = mm at em
              walk_at "rd"
              refine ⟨p, dx, _, rfl, hT8.1, tk_no _ _ (by decide +kernel) (by decide +kernel), ?_⟩
              cases U8 with
              | nil =>
                have hb : Pre W2 (tkl t0 ++ tkls ts) ∧ BadK x.kd := by
                  rcases st8 with ⟨e1, _⟩ | ⟨h1', h2', _⟩
                  · cases hd : ts.drop j <;> (rw [hd] at e1; cases e1)
                  · exact ⟨h1', h2'⟩
                refine ⟨p, dx, r, e, ws, rs, x, rfl, hT8.1, hT8.2.1, hT8.2.2.1, ha8.nil, ?_⟩
                walk_at "rd"
                show if decide (V.str x.kd = V.str (Str.ofString ",")) = true then _ else _
                refine ifEqS (fun e => absurd e hb.2.cm) (fun _ => ?_)
                show if false = true then _ else _
                rw [if_neg (by decide)]
                exact cont2 _ _ ⟨e, [], vs, rfl, hps8, hT8, ha8, he8, .inr ⟨rfl, hb⟩, f8⟩
              | cons u U9 =>
                obtain ⟨⟨y8, gy8, ek8, ew8⟩, ha9⟩ := ha8.cons
                refine ⟨p, dx, r, e, ws, rs, y8, rfl, hT8.1, hT8.2.1, hT8.2.2.1, gy8, ?_⟩
                cases eD : ts.drop j with
                | nil =>
                  rw [eD] at st8
                  have ej : j = ts.length := by have := List.drop_eq_nil_iff.mp eD; omega
                  have g8 : u = .sg 41 ∧ U9 = [] ∧ W2 = tkl t0 ++ tkls ts ∧ TmsIn Hv (t0 :: ts.take j) vs := by
                    rcases st8 with ⟨e1, e2, _, e3⟩ | ⟨_, _, h | h⟩
                    · have e1 : u :: U9 = [Tk.sg 41] := e1
                      exact ⟨(List.cons.inj e1).1, (List.cons.inj e1).2, e2, e3⟩
                    · obtain ⟨_, S, n', e⟩ := pre_cons (w := .sg 41) (W := []) h
                      cases S with
                      | nil => exact absurd rfl n'
                      | cons _ _ => cases U9 <;> cases e
                    · cases h
                  obtain ⟨rfl, rfl, eW, hvs⟩ := g8
                  rw [ek8.trans (show (Tk.sg 41).kd = (")" : Str) by decide +kernel)]
                  walk_at "rd"
                  show if decide (V.str (Str.ofString ")") = V.str (Str.ofString ",")) = true then _ else _
                  refine ifEqS (fun e => absurd e (by decide +kernel)) (fun _ => ?_)
                  show if false = true then _ else _
                  rw [if_neg (by decide)]
                  rw [ej, List.take_length] at hvs
                  exact cont2 _ _ ⟨e, _, vs, rfl, hps8, hT8, ha8, he8, .inl ⟨rfl, eW, hvs⟩, f8⟩
                | cons t2 rest =>
                  rw [eD] at st8
                  have jlt : j < ts.length := by
                    by_cases z : j < ts.length
                    · exact z
                    · rw [List.drop_of_length_le (by omega)] at eD; cases eD
                  have eD2 : ts.drop (j + 1) = rest ∧ ts[j]? = some t2 := by
                    rw [List.drop_eq_getElem_cons jlt] at eD
                    injection eD with e1 e2
                    exact ⟨e2, by rw [List.getElem?_eq_getElem jlt, e1]⟩
                  have md9 : u = .sg 44 ∧ ((U9 = tkl t2 ++ tkls rest ∧ x.kd ≠ ("(" : Str)) ∨ (Pre U9 (tkl t2 ++ tkls rest) ∧ BadK x.kd)) := by
                    rcases st8 with ⟨e1, _, nk, _⟩ | ⟨_, hb, h | h⟩
                    · have e1 : u :: U9 = Tk.sg 44 :: (tkl t2 ++ tkls rest) := e1
                      exact ⟨(List.cons.inj e1).1, .inl ⟨(List.cons.inj e1).2, nk⟩⟩
                    · have h := pre_cons (w := .sg 44) (W := tkl t2 ++ tkls rest) h
                      exact ⟨h.1, .inr ⟨h.2, hb⟩⟩
                    · cases h
                  obtain ⟨rfl, md9⟩ := md9
                  have ek8 : y8.kd = ("," : Str) := ek8.trans (by decide +kernel)
                  rw [ek8]
                  walk_at "rd"
                  refine ifD (fun _ => ?_) (fun z => absurd (show ((V.str f :: vs).length : Int) ≤ 3 by show ((vs.length + 1 : Nat) : Int) ≤ 3; omega) z)
                  walk_at "rd"
                  refine ⟨p, dx, _, rfl, hT8.1, tk_no _ _ (by decide +kernel) (by decide +kernel), ?_⟩
                  walk_at "rd"
                  refine ⟨show 1 ≤ sizeLine by decide, ?_⟩
                  first | intro k2 n9 | refine fun k2 n9 => ?_
                  generalize ehn : upd Hv k2 _ = H9
                  have s9 := J.al_same n9 ehn
                  have h9 := J.al_at ehn
                  clear ehn
                  have hT9 := hT8.same s9
                  walk_at "rd"
                  refine ⟨p, dx, r, k2, e, ws, rs, y8, [","], rfl, hT9.1, hT9.2.1, hT9.2.2.1, gy8, h9, fun _ y9 H10 b10 hp10 hy10 => ?_, fun m => absurd (by rw [ek8]; exact List.mem_cons_self ..) m⟩
                  have hT10 := hT9.but b10 hp10
                  have hps10 := b10 _ _ (s9 _ _ hps8) psp
                  have t10 : Tu Hv H10 := (tu_same s9).trans (ins_tu hT9.1 b10)
                  obtain ⟨T3, x3, U3, ha3, md3, haU3, lenU3, stU3, hE3⟩ := split_at ha9 md9
                  have f10 : ∀ a ob, H a = some ob → a ≠ p → H10 a = some ob := fun a ob ea ne => b10 _ _ (s9 _ _ (f8 a ob ea ne)) ne
                  walk_at "rd"
                  refine ⟨.inl ⟨rfl, _, SqL.of hps10⟩, ?_⟩
                  walk_at "rd"
                  refine ⟨p, dx, r, e + 1, ws, rs, t2, x3, T3, fs, rfl, hT10, ha3, Tm.wf_of_mem wts.2 (List.mem_of_getElem? eD2.2), f5, TmIn.dep_arg dt (List.mem_cons_of_mem _ (List.mem_of_getElem? eD2.2)), md3, fun v2 H11 b11 hT11 hv2 _ => ?_, fun hp d H11 b11 hd => ?_⟩
                  rotate_left
                  · obtain ⟨h1', h2'⟩ := hE3 hp
                    rw [h2'] at hd
                    have hW : Pre W2 (tkl t0 ++ tkls ts) := by
                      rcases st8 with ⟨e1, _⟩ | ⟨h, _⟩
                      · have e1 : Tk.sg 44 :: U9 = Tk.sg 44 :: (tkl t2 ++ tkls rest) := e1
                        rw [(List.cons.inj e1).2] at h1'
                        exact (pre_irr h1').elim
                      · exact h
                    exact qe2 hW d H11 (fun a ob ea ne => b11 _ _ (f10 a ob ea ne) ne) hd
                  have hps11 := b11 _ _ hps10 psp
                  refine ⟨ps, _, _, rfl, rfl, hps11, Nat.lt_of_le_of_lt (show (V.str f :: vs).length ≤ 4 by show vs.length + 1 ≤ 4; omega) (by decide), ?_⟩
                  generalize ehn : upd H11 ps _ = H12
                  have b12 := J.al_but ehn
                  have h12 := J.al_at ehn
                  clear ehn
                  have tp12 := but_tu b12 (lst_not_tup hps11)
                  have hT12 : TkAt A.c_Tokens H12 p dx r (e + 1 + T3.length) ws rs := ⟨b12 _ _ hT11.1 psp.symm, b12 _ _ hT11.2.1 rps, hT11.2.2.1.tu tp12, hT11.2.2.2⟩
                  have tv : Tu Hv H12 := t10.trans ((ins_tu hT10.1 b11).trans tp12)
                  have he8' : e + (U9.length + 1) = i + (W2.length + 2) := he8
                  refine less_of (k := ts.length - (j + 1)) ⟨j + 1, e + 1 + T3.length, U3, vs ++ [v2], jlt, rfl, rfl, h12, by rw [List.length_append]; show vs.length + 1 ≤ j + 1 + 1; omega, hT12, haU3, by omega, ?_, fun a ob ea ne => b12 _ _ (b11 _ _ (f10 a ob ea ne) ne) fun z => by rw [z, psH] at ea; cases ea⟩ (by omega)
                  rw [eD2.1]
                  rcases st8 with ⟨e1, e2, nk, hvs⟩ | ⟨h1', h2', h3'⟩
                  · rcases stU3 with ⟨q1, q2, q3, q4⟩ | ⟨q1, q2, q3⟩
                    · refine .inl ⟨q2, e2, nk, ?_⟩
                      rw [list_take_succ eD2.2, ← List.cons_append]
                      exact (hvs.tu tv).append (TmsIn.one ((hv2 q1).tu tp12))
                    · have e1 : Tk.sg 44 :: U9 = Tk.sg 44 :: (tkl t2 ++ tkls rest) := e1
                      rw [(List.cons.inj e1).2] at q1
                      exact (pre_irr q1).elim
                  · rcases stU3 with ⟨q1, q2, q3, q4⟩ | ⟨q1, q2, q3⟩
                    · exfalso
                      rcases h3' with h | h
                      · have h := (pre_cons (w := .sg 44) (W := tkl t2 ++ tkls rest) h).2
                        rw [q3] at h
                        exact pre_irr h
                      · cases h
                    · exact .inr ⟨h1', h2', q3⟩
            · intro σ' H' Q1 Q2 m h
              unfold tAnd tTest tOp tMeth at h ⊢
              obtain ⟨v1, e1, a1, d1, f1, g1, g2, g3, p1, p2, p3, i1, w1, r1, x1, g4, g5, g6, g7, g8, g9, g10⟩ := h
              obtain ⟨k, g11, g12⟩ := g10
              refine ⟨v1, e1, a1, d1, f1, g1, g2, g3, p1, p2, p3, i1, w1, r1, x1, g4, g5, g6, g7, g8, g9, k, g11, ?_⟩
              cases k with
              | false => exact m _ _ g12
              | true =>
                obtain ⟨v2, e2, p4, ys, g13, g14, i5, j5, g15, g16, k2, g17, g18⟩ := g12
                exact ⟨v2, e2, p4, ys, g13, g14, i5, j5, g15, g16, k2, g17, m _ _ g18⟩

theorem all_u_read_part (T : Tx K mg A) : ∀ N : Nat, FnOk P w K mg base (L2N.CX P w) (N + 5) A.a_u_read_part A.d_u_read_part ["tokens"] (sp_u_read_part A.c_Tokens A.c_Malformed N)
  | 0 => fn_none fun vs H Q E h => by obtain ⟨p, dx, r, i, ws, rs, t, x, T', fs, _, _, _, _, _, hd, _⟩ := h; have := t.dep_pos; omega
  | N + 1 => st_u_read_part T N (all_u_read_part T N)
theorem ok_u_read_part (T : Tx K mg A) : FnOk P w K mg base (L2N.CX P w) 65 A.a_u_read_part A.d_u_read_part ["tokens"] (sp_u_read_part A.c_Tokens A.c_Malformed 60) := all_u_read_part T 60

/-! profile -/
theorem kidsOf_sz : ∀ l : List Tm, Tm.szs (kidsOf l) + l.length = Tm.szs l
  | [] => rfl
  | .var _ :: r => by
    have := kidsOf_sz r
    show Tm.szs (kidsOf r) + (r.length + 1) = 1 + Tm.szs r
    omega
  | .app _ ts :: r => by
    have := kidsOf_sz r
    show Tm.szs (ts ++ kidsOf r) + (r.length + 1) = (1 + Tm.szs ts) + Tm.szs r
    rw [szs_app]; omega
theorem deps_app : ∀ a b : List Tm, Tm.deps (a ++ b) = max (Tm.deps a) (Tm.deps b)
  | [], b => by show _ = max 0 _; simp
  | t :: a, b => by
    show max t.dep (Tm.deps (a ++ b)) = max (max t.dep (Tm.deps a)) (Tm.deps b)
    rw [deps_app a b]; omega
theorem kidsOf_dep : ∀ l : List Tm, l ≠ [] → Tm.deps l = 1 + Tm.deps (kidsOf l)
  | [], h => absurd rfl h
  | [.var _], _ => rfl
  | [.app _ ts], _ => by
    show max (1 + Tm.deps ts) 0 = 1 + Tm.deps (ts ++ [])
    rw [List.append_nil]; omega
  | .var _ :: u :: r, _ => by
    have := kidsOf_dep (u :: r) (List.cons_ne_nil _ _)
    show max 1 (Tm.deps (u :: r)) = 1 + Tm.deps (kidsOf (u :: r))
    omega
  | .app _ ts :: u :: r, _ => by
    have := kidsOf_dep (u :: r) (List.cons_ne_nil _ _)
    show max (1 + Tm.deps ts) (Tm.deps (u :: r)) = 1 + Tm.deps (ts ++ kidsOf (u :: r))
    rw [deps_app]; omega
theorem kidsOf_app : ∀ a b : List Tm, kidsOf (a ++ b) = kidsOf a ++ kidsOf b
  | [], _ => rfl
  | .var _ :: a, b => kidsOf_app a b
  | .app _ ts :: a, b => by show ts ++ kidsOf (a ++ b) = ts ++ kidsOf a ++ kidsOf b; rw [kidsOf_app a b, List.append_assoc]
def sp_profile : Sp := fun vs H Q _ => ∃ (v : V) (t : Tm), vs = [v] ∧ TmIn H t v ∧ t.sz ≤ 100000 ∧ ∀ p x tl H', Same H H' → H x = none → ProIn H' p t x tl → Q (.ref p) H'
theorem ok_profile (T : Tx K mg A) : FnOk P w K mg base CX0 (2) A.a_profile A.d_profile ["term"] sp_profile := by

  refine T.F_profile.ok sc_profile (fun vs H Q E h => ?_) (fun cdv Ar outer s0 H vs Q E hr h => ?_)
  · obtain ⟨v, t, rfl, _⟩ := h; rfl
  obtain ⟨v, t, rfl, ht, hz, q⟩ := h
  refine ⟨_, (pss_cons (ps_set (i := 1) sc_profile.nd rfl (Or.inl rfl) pe_int)
    (pss_cons (ps_set (i := 2) sc_profile.nd rfl (Or.inl rfl) pe_int)
    (pss_cons (ps_set (i := 3) sc_profile.nd rfl (Or.inl rfl) pe_dnewK)
    (pss_cons (ps_set (i := 4) sc_profile.nd rfl (Or.inl rfl) (pe_lst (pa_cons (pv 0) pa_nil)))
    (pss_cons (ps_while PassesOwn.never (pt_truth (pv 4) (by intro _; rfl)) (pss_cons (ps_aug (i := 2) sc_profile.nd rfl (Or.inl rfl) pe_int ip_add)
    (pss_cons (ps_aug (i := 1) sc_profile.nd rfl (Or.inl rfl) (pe_callB (r := rLenS K) j_len (by rfl) T.n_len PySem.boot_len (pa_cons (pv 4) pa_nil)) ip_add)
    (pss_cons (ps_set (i := 5) sc_profile.nd rfl (Or.inl rfl) (pe_lst pa_nil))
    (pss_cons (ps_for PassesOwn.never rfl (pi_list (pe_callTy (r := rListS K) j_list (by rfl) T.n_list boot_list (pa_cons (pv 4) pa_nil))) (pg_name (i := 6) sc_profile.nd rfl (Or.inl rfl)) (pss_one (ps_if (pt_val (pe_callB (r := rIsi K) call_isi (by rfl) T.n_isinstance boot_isinstance (pa_cons (pv 6) (pa_cons (pe_bltn (v := .ty "tuple") (by rfl) T.n_tuple boot_tuple rfl) pa_nil)))) (pss_one (ps_expr (pe_bm PySem.F.plainAttrs_list PySem.F.slot_list_extend PySem.F.type_list_extend (r := rExtT K) mt_extT (pv 5) (pa_cons (pe_slice (r := rSlT K) sl_tup (pv 6) (po_some pe_int) po_none) pa_nil)))) (pss_cons (ps_asg (pe_dget2 (hu_of hr) (pv 3) (pv 6) (pe_tup (pa_cons pe_int (pa_cons pe_int pa_nil))) ⟨by rfl, by rfl, by rfl, by rfl⟩) (pg_tup (by rfl) (pgs_cons (pg_name (i := 7) sc_profile.nd rfl (Or.inl rfl)) (pgs_cons (pg_name (i := 8) sc_profile.nd rfl (Or.inl rfl)) pgs_nil))))
    (pss_one (ps_dput (hu_of hr) (pv 3) (pv 6) (pe_tup (pa_cons (pe_op op_add (pv 7) pe_int) (pa_cons (pv 2) pa_nil))) rfl))))))
    (pss_one (ps_set (i := 4) sc_profile.nd rfl (Or.inl rfl) (pv 5))))))))
    (pss_one (ps_ret (pe_tup (pa_cons (pv 1) (pa_cons (pv 2) (pa_cons (pv 3) pa_nil))))))))))), ?_⟩
  dsimp only [tSeq, tAsg, tC, gName]
  first | intro d n1 | refine fun d n1 => ?_
  generalize ehn : upd H d _ = H1
  have s1 := J.al_same n1 ehn
  have h1 := J.al_at ehn
  clear ehn
  refine ⟨_, rfl, ?_⟩
  refine ⟨show 1 ≤ sizeLine by decide, ?_⟩
  first | intro p0 n2 | refine fun p0 n2 => ?_
  generalize ehn : upd H1 p0 _ = H2
  have s2 := J.al_same n2 ehn
  have h2 := J.al_at ehn
  clear ehn
  have hd2 := s2 _ _ h1
  have tu2 : Tu H H2 := tu_same (s1.trans s2)
  refine while_list (K := K) (fun σ' H' => ∃ (T L : Nat) (row : List Tm) (p : Addr) (ws : List V) (kvs : List (Key × V)) (tl : Tl) (ols : List (Int × Nat)) (x5 x6 x7 x8 : Option V), σ' = [some v, some (.int (T : Int)), some (.int (L : Int)), some (.ref d), some (.ref p), x5, x6, x7, x8] ∧ H' p = some (.lst ws) ∧ TmsIn H' row ws ∧ T + Tm.szs row = t.sz ∧ L + Tm.deps row = t.dep ∧ H' d = some (.dK kvs) ∧ TalIn H' kvs tl ∧ Tal L tl ols ∧ (ols ++ olvs (L + 1) row).Perm (olv 1 t) ∧ kvs.length ≤ T ∧ Same H H')
    (fun σ' H' => t.sz - (match (σ'[1]? : Option (Option V)) with | some (some (V.int T)) => T.toNat | _ => 0)) ?_ ?_
  · exact ⟨0, 0, [t], p0, [v], [], [], [], none, none, none, none, rfl, h2, TmsIn.one (ht.tu tu2), by show 0 + (t.sz + 0) = _; omega, by show 0 + max t.dep 0 = _; omega, hd2, trivial, Tal.nil, (by show ([] ++ (olv 1 t ++ [])).Perm _; rw [List.append_nil]; exact List.Perm.refl _), Nat.le_refl _, s1.trans s2⟩
  · rintro σ' H' ⟨T, L, row, p, ws, kvs, tl, ols, x5, x6, x7, x8, rfl, hp, hr', eT, eL, hd', sp, tal, per, hk, k⟩
    refine ⟨p, ws, rfl, hp, fun z => ?_, fun z => ?_⟩
    · subst z
      have : row = [] := List.length_eq_zero_iff.mp hr'.length.symm
      subst this
      have eT : T + 0 = t.sz := eT
      have eL : L + 0 = t.dep := eL
      walk_at "rd"
      refine ⟨show 3 ≤ sizeLine by decide, ?_⟩
      first | intro r n3 | refine fun r n3 => ?_
      generalize ehn : upd H' r _ = H3
      have s3 := J.al_same n3 ehn
      have h3 := J.al_at ehn
      clear ehn
      rw [← Nat.add_zero T, ← Nat.add_zero L, eT, eL] at h3
      have per : (ols ++ []).Perm (olv 1 t) := per
      rw [List.append_nil] at per
      have eL : L = t.dep := eL
      exact q r d tl H3 (k.trans s3) n1 ⟨h3, kvs, s3 _ _ hd', sp.tu (tu_same s3), eL ▸ tal.perm per⟩
    · have hwl := hr'.length
      have dp : d ≠ p := fun z => by rw [z, hp] at hd'; cases hd'
      walk_at "rd"
      refine ⟨show 0 ≤ sizeLine by decide, ?_⟩
      first | intro b nb | refine fun b nb => ?_
      generalize ehn : upd H' b _ = Hb
      have sb := J.al_same nb ehn
      have hb0 := J.al_at ehn
      clear ehn
      walk_at "rd"
      refine ⟨p, ws, rfl, .inl (SqL.of (sb _ _ hp)), ?_⟩
      first | intro c nc | refine fun c nc => ?_
      generalize ehn : upd Hb c _ = H3
      have sc := J.al_same nc ehn
      have hc3 := J.al_at ehn
      clear ehn
      have s3 : Same H' H3 := sb.trans sc
      have n3 : H' b = none := nb
      have h3 := sc _ _ hb0
      have cb : c ≠ b := fun z => by rw [z, hb0] at nc; cases nc
      have cd : c ≠ d := fun z => by rw [z, sb _ _ hd'] at nc; cases nc
      have k3 : Same H H3 := k.trans s3
      have b0 : H b = none := k.free n3
      have d0 : H d = none := n1
      have hp3 := s3 _ _ hp
      have hd3 := s3 _ _ hd'
      have hr3 := hr'.tu (tu_same s3)
      have sp3 := sp.tu (tu_same s3)
      have db : d ≠ b := fun z => by rw [z, n3] at hd'; cases hd'
      have pb : p ≠ b := fun z => by rw [z, n3] at hp; cases hp
      have hrl := Tm.len_le row
      refine ⟨_, rfl, ⟨_, SqL.of hc3⟩, for_list (K := K) (a := c) (xs := ws) (fun i σ' H4 => ∃ (bs : List V) (kvs : List (Key × V)) (tl : Tl) (x6 x7 x8 : Option V), σ' = [some v, some (.int ((T : Int) + ((ws.length : Nat) : Int))), some (.int ((L : Int) + 1)), some (.ref d), some (.ref p), some (.ref b), x6, x7, x8] ∧ H4 b = some (.lst bs) ∧ TmsIn H4 (kidsOf (row.take i)) bs ∧ H4 d = some (.dK kvs) ∧ TalIn H4 kvs tl ∧ Tal (L + 1) tl (ols ++ varsAt (L + 1) (row.take i)) ∧ kvs.length ≤ T + i ∧ (∀ a o, H3 a = some o → a ≠ d → a ≠ b → H4 a = some o)) ?_ ?_ ?_ ?_⟩
      · exact ⟨[], kvs, tl, x6, x7, x8, rfl, h3, rfl, hd3, sp3, (by show Tal _ _ (ols ++ []); rw [List.append_nil]; exact tal.mono (Nat.le_succ _)), hk, fun a o e _ _ => e⟩
      · rintro i σ' H4 hi ⟨bs, kvs, tl, x6, x7, x8, rfl, hb, hbs, hd, sp, tal, hk, f⟩
        exact SqL.of (f _ _ hc3 cd cb)
      · rintro i y σ' H4 hi ⟨bs, kvs, tl, x6, x7, x8, rfl, hb, hbs, hd, sp, tal, hk, f⟩
        obtain ⟨x, gx, hx⟩ := hr3.get hi
        have tu4 : Tu H3 H4 := fun a xs e => f a _ e (fun z => by rw [z, hd3] at e; cases e) fun z => by rw [z, h3] at e; cases e
        have hx4 := hx.tu tu4
        have ix : i < row.length := (List.getElem?_eq_some_iff.mp gx).1
        rw [list_take_succ gx, kidsOf_app, varsAt_app, ← List.append_assoc]
        cases x with
        | var n =>
          cases (show y = .int n from hx4)
          walk_at "ri"
          refine ⟨.inl ⟨_, .inl hd⟩, ?_⟩
          walk_at "rd"
          refine ⟨show 2 ≤ sizeLine by decide, ?_⟩
          first | intro e0 n5 | refine fun e0 n5 => ?_
          generalize ehn : upd H4 e0 _ = H5
          have s5 := J.al_same n5 ehn
          have h5 := J.al_at ehn
          clear ehn
          have hd5 := s5 _ _ hd
          have dg := DGet.k (k := Sum.inl n) hd5
          cases ev : valV kvs (Sum.inl n : Key) with
          | none =>
            rw [ev] at dg
            refine ⟨none, dg, ?_⟩
            refine ⟨e0, _, rfl, SqT.of h5, rfl, _, _, rfl, _, _, rfl, rfl, ?_⟩
            walk_at "rd"
            refine ⟨show 2 ≤ sizeLine by decide, ?_⟩
            first | intro g2 n6 | refine fun g2 n6 => ?_
            generalize ehn : upd H5 g2 _ = H6
            have s6 := J.al_same n6 ehn
            have h6 := J.al_at ehn
            clear ehn
            have hd6 := s6 _ _ hd5
            walk_at "rd"
            refine ⟨d, _, rfl, DPut.k (k := Sum.inl n) hd6 (Nat.lt_of_le_of_lt (show kvs.length ≤ 200000 by omega) (by decide)), ?_⟩
            generalize ehn : upd H6 d _ = H7
            have b7 := J.al_but ehn
            have h7 := J.al_at ehn
            clear ehn
            have tu7 : Tu H6 H7 := but_tu b7 fun xs e => by rw [hd6] at e; cases e
            have tu47 : Tu H4 H7 := (tu_same s5).trans ((tu_same s6).trans tu7)
            refine ⟨bs, _, _, _, _, _, rfl, b7 _ _ (s6 _ _ (s5 _ _ hb)) db.symm, ?_, h7, (sp.tu (tu_same s5)).put (L := L + 1) (c := 1) ((tu_same s6).trans tu7) (tu7 _ _ h6) (fun x hx e => absurd (List.mem_map.mpr ⟨x, hx, e⟩) (sp.hasnt n ev)) (fun _ => rfl), tal.put n (Nat.succ_pos _), Nat.le_trans (length_putK _ _ _) (by omega), fun a o e ne1 ne2 => b7 a o (s6 _ _ (s5 _ _ (f a o e ne1 ne2))) ne1⟩
            show TmsIn H7 (kidsOf (row.take i) ++ []) bs
            rw [List.append_nil]
            exact hbs.tu tu47
          | some v0 =>
            rw [ev] at dg
            obtain ⟨c0, l0, a0, rfl, ha0, hm0, hu0⟩ := TalIn.has n tal.nd sp ev
            refine ⟨some (.ref a0), dg, ?_⟩
            refine ⟨a0, _, rfl, SqT.of (s5 _ _ ha0), rfl, _, _, rfl, _, _, rfl, rfl, ?_⟩
            walk_at "rd"
            refine ⟨show 2 ≤ sizeLine by decide, ?_⟩
            first | intro g2 n6 | refine fun g2 n6 => ?_
            generalize ehn : upd H5 g2 _ = H6
            have s6 := J.al_same n6 ehn
            have h6 := J.al_at ehn
            clear ehn
            have hd6 := s6 _ _ hd5
            walk_at "rd"
            refine ⟨d, _, rfl, DPut.k (k := Sum.inl n) hd6 (Nat.lt_of_le_of_lt (show kvs.length ≤ 200000 by omega) (by decide)), ?_⟩
            generalize ehn : upd H6 d _ = H7
            have b7 := J.al_but ehn
            have h7 := J.al_at ehn
            clear ehn
            have tu7 : Tu H6 H7 := but_tu b7 fun xs e => by rw [hd6] at e; cases e
            have tu47 : Tu H4 H7 := (tu_same s5).trans ((tu_same s6).trans tu7)
            refine ⟨bs, _, _, _, _, _, rfl, b7 _ _ (s6 _ _ (s5 _ _ hb)) db.symm, ?_, h7, (sp.tu (tu_same s5)).put (L := L + 1) (c := c0 + 1) ((tu_same s6).trans tu7) (tu7 _ _ h6) (fun x hx e => by rw [hu0 x hx e]) (fun z => absurd (List.mem_map.mpr ⟨_, hm0, rfl⟩) z), tal.put n (Nat.succ_pos _), Nat.le_trans (length_putK _ _ _) (by omega), fun a o e ne1 ne2 => b7 a o (s6 _ _ (s5 _ _ (f a o e ne1 ne2))) ne1⟩
            show TmsIn H7 (kidsOf (row.take i) ++ []) bs
            rw [List.append_nil]
            exact hbs.tu tu47
        | app g ts =>
          obtain ⟨c, us, rfl, hc, hts⟩ := hx4
          have hbl := hbs.length
          have hul := hts.length
          have kz := kidsOf_sz (row.take i)
          have tz := szs_take row i
          have kl := Tm.len_le (kidsOf (row.take i))
          have tzl := Tm.len_le ts
          have xz := Tm.sz_arg (List.mem_of_getElem? gx)
          have xz : 1 + Tm.szs ts ≤ Tm.szs row := xz
          walk_at "ri"
          refine ⟨.inl ⟨rfl, _, SqL.of hb⟩, ?_⟩
          walk_at "rd"
          walk_at "sl1"
          first | intro y5 n5 | refine fun y5 n5 => ?_
          generalize ehn : upd H4 y5 _ = H5
          have s5 := J.al_same n5 ehn
          have h5 := J.al_at ehn
          clear ehn
          have hb5 := s5 _ _ hb
          refine ⟨b, y5, _, _, rfl, rfl, hb5, SqT.of h5, ?_, ?_⟩
          · exact Nat.le_trans (show bs.length + us.length ≤ 200000 by omega) (by decide)
          generalize ehn : upd H5 b _ = H6
          have b6 := J.al_but ehn
          have h6 := J.al_at ehn
          clear ehn
          have tu6 : Tu H5 H6 := but_tu b6 (lst_not_tup hb5)
          have tu46 : Tu H4 H6 := (tu_same s5).trans tu6
          refine ⟨_, kvs, tl, _, _, _, rfl, h6, ?_, b6 _ _ (s5 _ _ hd) db, sp.tu tu46, (by show Tal _ _ (_ ++ []); rw [List.append_nil]; exact tal), by omega, fun a o e ne1 ne2 => b6 a o (s5 _ _ (f a o e ne1 ne2)) ne2⟩
          show TmsIn H6 (kidsOf (row.take i) ++ (ts ++ [])) _
          rw [List.append_nil]
          exact (hbs.tu tu46).append (hts.tu tu46)
      · rintro σ' H4 ⟨bs, kvs, tl, x6, x7, x8, rfl, hb, hbs, hd, sp, tal, hk, f⟩
        rw [hwl, List.take_length] at hbs tal
        have per2 : (ols ++ varsAt (L + 1) row ++ olvs (L + 1 + 1) (kidsOf row)).Perm (olv 1 t) := by rw [List.append_assoc]; exact ((row_perm (L + 1) row).append_left ols).trans per
        have e1 := kidsOf_sz row
        have e2 := kidsOf_dep row fun z => by rw [z] at hwl; exact ‹ws ≠ []› (List.length_eq_zero_iff.mp hwl)
        have hne : 0 < ws.length := List.length_pos_iff.mpr ‹ws ≠ []›
        walk_at "rd"
        refine ⟨⟨T + ws.length, L + 1, kidsOf row, b, bs, kvs, tl, _, _, _, _, _, rfl, hb, hbs, by omega, by omega, hd, sp, tal, per2, by omega, fun a o e => f a o (k3 a o e) (fun z => by rw [z, d0] at e; cases e) fun z => by rw [z, b0] at e; cases e⟩, ?_⟩
        show t.sz - ((T : Int) + ((ws.length : Nat) : Int)).toNat < t.sz - ((T : Int)).toNat
        omega

/-! measure -/
def sp_measure : Sp := fun vs H Q _ => ∃ (v : V) (t : Tm), vs = [v] ∧ TmIn H t v ∧ t.sz ≤ 100000 ∧ ∀ p H', Same H H' → H' p = some (.tup [.int (t.sz : Int), .int (t.dep : Int)]) → Q (.ref p) H'
theorem ok_measure (T : Tx K mg A) : FnOk P w K mg base CX0 (3) A.a_measure A.d_measure ["term"] sp_measure := by
  have G_profile := ok_profile (P := P) (w := w) (base := base) T
  refine T.F_measure.ok sc_measure (fun vs H Q E h => ?_) (fun cdv Ar outer s0 H vs Q E hr h => ?_)
  · obtain ⟨v, t, rfl, _⟩ := h; rfl
  obtain ⟨v, t, rfl, ht, hz, q⟩ := h
  refine ⟨_, (pss_cons (ps_asg (pe_call G_profile (hr.mono (by omega)) rfl T.m_profile T.F_profile.kp T.b_profile .nil pass0 (pa_cons (pv 0) pa_nil)) (pg_tup (by rfl) (pgs_cons (pg_name (i := 1) sc_measure.nd rfl (Or.inl rfl)) (pgs_cons (pg_name (i := 2) sc_measure.nd rfl (Or.inl rfl)) (pgs_cons (pg_name (i := 3) sc_measure.nd rfl (Or.inl rfl)) pgs_nil)))))
    (pss_one (ps_ret (pe_tup (pa_cons (pv 1) (pa_cons (pv 2) pa_nil)))))), ?_⟩
  walk_at "rd"
  refine ⟨v, t, rfl, ht, hz, fun p x tl H1 s1 _ hp1 => ?_⟩
  have h1 := hp1.1
  refine ⟨p, _, rfl, SqT.of h1, rfl, _, _, rfl, _, _, rfl, _, _, rfl, rfl, ?_⟩
  walk_at "rd"
  refine ⟨show 2 ≤ sizeLine by decide, ?_⟩
  first | intro r n2 | refine fun r n2 => ?_
  generalize ehn : upd H1 r _ = H2
  have s2 := J.al_same n2 ehn
  have h2 := J.al_at ehn
  clear ehn
  exact q r H2 (s1.trans s2) h2

/-! is_within -/
def within (a b : Int) : Bool := decide (a ≤ 400) && decide (b ≤ 30)
def sp_is_within : Sp := fun vs H Q _ => ∃ a b : Int, vs = [.int a, .int b] ∧ Q (.bl (within a b)) H
theorem ok_is_within (T : Tx K mg A) : FnOk P w K mg base CX0 (1) A.a_is_within A.d_is_within ["total", "deepest"] sp_is_within := by
  obtain ⟨tk_MAX_DEPTH, c_MAX_DEPTH⟩ := T.c_MAX_DEPTH
  obtain ⟨tk_MAX_SIZE, c_MAX_SIZE⟩ := T.c_MAX_SIZE
  refine T.F_is_within.ok sc_is_within (fun vs H Q E h => ?_) (fun cdv Ar outer s0 H vs Q E hr h => ?_)
  · obtain ⟨a, b, rfl, _⟩ := h; rfl
  obtain ⟨a, b, rfl, q⟩ := h
  refine ⟨_, (pss_one (ps_ret (pe_and (pe_cmpR op_le (pv 0) (pe_glob (v := .int 400) rfl c_MAX_SIZE ⟨_, rfl⟩) (nomark _)) (pe_one (pe_cmpR op_le (pv 1) (pe_glob (v := .int 30) rfl c_MAX_DEPTH ⟨_, rfl⟩) (nomark _)))))), ?_⟩
  walk_at "rd"
  unfold within at q
  cases e : decide (a ≤ 400) with
  | true =>
    rw [e] at q
    rw [if_pos rfl]
    walk_at "rd"
    exact q
  | false =>
    rw [e] at q
    exact q

/-! check_size -/
def sp_check_size (C : Addr) : Sp := fun vs H Q E => ∃ (v : V) (t : Tm), vs = [v] ∧ TmIn H t v ∧ t.sz ≤ 100000 ∧ (within t.sz t.dep = true → ∀ H', Same H H' → Q .non H') ∧ (within t.sz t.dep = false → ∀ H', Same H H' → E (.ref C) none H')
theorem ok_check_size (T : Tx K mg A) : FnOk P w K mg base (L2.CX P w) 5 A.a_check_size A.d_check_size ["term"] (sp_check_size A.c_TooLarge) := by
  have G_is_within := ok_is_within (P := P) (w := w) (base := base) T
  have G_measure := ok_measure (P := P) (w := w) (base := base) T
  refine T.F_check_size.okX sc_check_size (fun vs H Q E h => ?_) (fun cdv Ar outer s0 H vs Q E hr h => ?_)
  · obtain ⟨v, t, rfl, _⟩ := h; rfl
  obtain ⟨v, t, rfl, ht, hz, q1, q2⟩ := h
  refine ⟨_, (pss_cons (ps_asg (pe_call G_measure (hr.mono (by omega)) rfl T.m_measure T.F_measure.kp T.b_measure .nil pass0 (pa_cons (pv 0) pa_nil)) (pg_tup (by rfl) (pgs_cons (pg_name (i := 1) sc_check_size.nd rfl (Or.inl rfl)) (pgs_cons (pg_name (i := 2) sc_check_size.nd rfl (Or.inl rfl)) pgs_nil))))
    (pss_one (ps_if (pt_not (pt_truth (pe_call G_is_within (hr.mono (by omega)) rfl T.m_is_within T.F_is_within.kp T.b_is_within .nil pass0 (pa_cons (pv 1) (pa_cons (pv 2) pa_nil))) (by intro _; rfl))) (pss_one (ps_raise rfl (takes_of rfl rfl rfl rfl) (pmk_own0 PySem.F.excBase_ValueError T.E_TooLarge.xC T.E_TooLarge.gC T.E_TooLarge.kC (raises_own T.E_TooLarge.bC T.E_TooLarge.tC) rfl))) pss_nil))), ?_⟩
  walk_at "rd"
  refine ⟨v, t, rfl, ht, hz, fun p H1 s1 h1 => ?_⟩
  refine ⟨p, _, rfl, SqT.of h1, rfl, _, _, rfl, _, _, rfl, rfl, ?_⟩
  walk_at "rd"
  refine ⟨(t.sz : Int), (t.dep : Int), rfl, ?_⟩
  cases e : within t.sz t.dep with
  | true =>
    walk_at "rd"
    exact q1 e _ s1
  | false =>
    walk_at "rd"
    exact q2 e _ s1

/-! is_name -/
def sp_is_name : Sp := fun vs H Q _ => ∃ (z : Str), vs = [.str z] ∧ z.length ≤ 1000 ∧ ∀ b H', Same H H' → (b = true ↔ (1 ≤ z.length ∧ z.length ≤ 8 ∧ Low z)) → Q (.bl b) H'
theorem ok_is_name (T : Tx K mg A) : FnOk P w K mg base CX0 (1) A.a_is_name A.d_is_name ["text"] sp_is_name := by
  obtain ⟨tk_LETTERS, c_LETTERS⟩ := T.c_LETTERS
  obtain ⟨tk_MAX_NAME, c_MAX_NAME⟩ := T.c_MAX_NAME
  refine T.F_is_name.ok sc_is_name (fun vs H Q E h => ?_) (fun cdv Ar outer s0 H vs Q E hr h => ?_)
  · obtain ⟨z, rfl, _⟩ := h; rfl
  obtain ⟨z, rfl, hz, q⟩ := h
  refine ⟨_, (pss_one (ps_ret (pe_and (pe_chain op_le op_le pe_int (pe_callB call_len_str (by rfl) T.n_len PySem.boot_len (pa_cons (pv 0) pa_nil)) (pe_glob (v := .int 8) rfl c_MAX_NAME ⟨_, rfl⟩)) (pe_one (pe_callB (r := rAll K) (cr_all rfl) (by rfl) T.n_all boot_all (pa_cons (pe_lc (own := [("letter", 1)]) (by rfl) sc_is_name.nd (pi_str (pv 0)) (blkOk_by (own := [("letter", 1)]) (N := ["text", "letter"]) (sc := defScope s_is_name) (by decide +kernel)) (fun _ _ _ _ _ => (pg_name (i := 1) sc_is_name.nd rfl (Or.inl rfl))) (fun _ _ _ _ _ => pts_nil) (fun _ _ _ _ _ => (pe_cmpR op_in_sign (pv 1) (pe_glob (v := .str "abcdefghijklmnopqrstuvwxyz") rfl c_LETTERS ⟨_, rfl⟩) rfl))) pa_nil)))))), ?_⟩
  walk_at "rd"
  refine ⟨Nat.le_trans hz (by decide), ?_⟩
  walk_at "rd"
  refine ifD (fun e1 => ?_) (fun e1 => ?_)
  · walk_at "rd"
    refine ifD (fun e2 => ?_) (fun e2 => ?_)
    · walk_at "rd"
      refine fun D hD => lc_it (walk_str (z := z)) (fun i H' => H' D = some (.lst ((((cods z).take i).map fun c => decide (c ∈ cods ("abcdefghijklmnopqrstuvwxyz" : Str))).map V.bl)) ∧ Same H H') ?_ ?_ ?_ ?_
      · exact ⟨upd_same, same_new hD _⟩
      · exact fun _ _ _ _ => trivial
      · rintro i x H1 H2 hi ⟨hp, k⟩ ⟨rfl, c, gc, rfl⟩
        refine ⟨rfl, ?_⟩
        walk_at "rd"
        refine ⟨_, hp, ?_, ?_, same_mut k hD _⟩
        · rw [List.length_map, List.length_map, List.length_take]
          exact Nat.lt_of_le_of_lt (show min i (cods z).length ≤ 1000 by rw [← len_tl]; omega) (by decide)
        · have gc : (cods z)[i]? = some c := by rw [Array.getElem?_toList]; exact gc
          rw [upd_same, list_take_succ gc, List.map_append, List.map_append]; rfl
      · rintro H1 ⟨hp, k⟩
        walk_at "rd"
        rw [show z.cps.size = (cods z).length from (len_tl z), List.take_length] at hp
        refine ⟨D, _, rfl, SqL.of hp, ?_⟩
        refine q _ H1 k ?_
        rw [List.all_map, List.all_eq_true]
        refine ⟨fun h => ⟨by omega, by omega, fun c hc => ?_⟩, fun h c hc => ?_⟩
        · have := of_decide_eq_true (h c hc)
          exact abc_in c this
        · exact decide_eq_true (abc_of c (h.2.2 c hc))
    · walk_at "rd"
      exact q false H (Same.refl _) ⟨(fun z => nomatch z), fun h => absurd h.2.1 (by omega)⟩
  · walk_at "rd"
    exact q false H (Same.refl _) ⟨(fun z => nomatch z), fun h => absurd h.1 (by omega)⟩

/-! _kind_of_word -/
def sp_u_kind_of_word : Sp := fun vs H Q _ => ∃ (t : Tk), vs = [.str t.txt] ∧ t.Ok ∧ t.isW = true ∧ ∀ H', Same H H' → Q (.str t.kd) H'
theorem ok_u_kind_of_word (T : Tx K mg A) : FnOk P w K mg base CX0 (2) A.a_u_kind_of_word A.d_u_kind_of_word ["word"] sp_u_kind_of_word := by
  have G_is_name := ok_is_name (P := P) (w := w) (base := base) T
  obtain ⟨tk_MAX_VARIABLE, c_MAX_VARIABLE⟩ := T.c_MAX_VARIABLE
  obtain ⟨tk_NAME, c_NAME⟩ := T.c_NAME
  obtain ⟨tk_UNREADABLE, c_UNREADABLE⟩ := T.c_UNREADABLE
  obtain ⟨tk_VARIABLE, c_VARIABLE⟩ := T.c_VARIABLE
  refine T.F_u_kind_of_word.ok sc_u_kind_of_word (fun vs H Q E h => ?_) (fun cdv Ar outer s0 H vs Q E hr h => ?_)
  · obtain ⟨t, rfl, _⟩ := h; rfl
  obtain ⟨t, rfl, ok, hw, q⟩ := h
  refine ⟨_, (pss_cons (ps_if (pt_truth (pe_call G_is_name (hr.mono (by omega)) rfl T.m_is_name T.F_is_name.kp T.b_is_name .nil pass0 (pa_cons (pv 0) pa_nil)) (by intro _; rfl)) (pss_one (ps_ret (pe_glob (v := .str "name") rfl c_NAME ⟨_, rfl⟩))) pss_nil)
    (pss_cons (ps_set (i := 1) sc_u_kind_of_word.nd rfl (Or.inl rfl) (pe_slice sl_str (pv 0) (po_some pe_int) po_none))
    (pss_cons (ps_if (PW.pt (pw_and (pt_cmpR op_eq (pe_ix ix_str (pv 0) pe_int (fun _ _ => rfl)) pe_str (nomark _)) (pw_and (pt_truth (pe_bm0 PySem.F.plainAttrs_str PySem.F.slot_str_isdigit PySem.F.type_str_isdigit mt_isdigit (pv 1)) (by intro _; rfl)) (pw_and1 (pt_cmpR op_le (pe_callB call_len_str (by rfl) T.n_len PySem.boot_len (pa_cons (pv 1) pa_nil)) pe_int (nomark _)))))) (pss_one (ps_if (PW.pt (pw_and (pt_cmpR op_le (pe_callTy call_int_str (by rfl) T.n_int boot_int (pa_cons (pv 1) pa_nil)) (pe_glob (v := .int 19) rfl c_MAX_VARIABLE ⟨_, rfl⟩) (nomark _)) (pw_and1 (pt_cmpR op_eq (pe_callTy call_str_int (by rfl) T.n_str boot_str (pa_cons (pe_callTy call_int_str (by rfl) T.n_int boot_int (pa_cons (pv 1) pa_nil)) pa_nil)) (pv 1) (nomark _))))) (pss_one (ps_ret (pe_glob (v := .str "variable") rfl c_VARIABLE ⟨_, rfl⟩))) pss_nil)) pss_nil)
    (pss_one (ps_ret (pe_glob (v := .str "unreadable") rfl c_UNREADABLE ⟨_, rfl⟩)))))), ?_⟩
  obtain ⟨_, l1, l8⟩ := tk_word ok hw
  walk_at "rd"
  refine ⟨by omega, fun b H1 s1 hb => ?_⟩
  cases t with
  | nm f =>
    have : b = true := hb.mpr ⟨ok.2.1, ok.2.2, ok.1⟩
    subst this
    walk_at "rd"
    exact q H1 s1
  | vr n =>
    have : b = false := by
      cases b with
      | false => rfl
      | true => exact absurd (hb.mp rfl).2.2 (low_not ok)
    subst this
    walk_at "rd"
    refine ⟨Nat.le_trans (show (Tk.vr n).txt.length ≤ 100 by omega) (by decide), ?_⟩
    walk_at "rd"
    obtain ⟨v1, v2, v3, v4, v5⟩ := var_word ⟨n, ok⟩
    dsimp only at v1 v2 v3 v4 v5
    refine ⟨_, _, 120, rfl, rfl, Nat.le_trans (show (Tk.vr n).txt.length ≤ 100 by omega) (by decide), atI_nat (j := 0) (by rw [Array.getElem?_toList]; exact v1), ?_⟩
    generalize cutS (Tk.vr n).txt (some 1) none = d at v2 v3 v4 v5
    walk_at "rd"
    refine ⟨trivial, ?_⟩
    rw [v2]
    refine ⟨true, rfl, ?_⟩
    walk_at "rd"
    refine ⟨Nat.le_trans (show d.length ≤ 100 by omega) (by decide), ?_⟩
    walk_at "rd"
    refine ifD (fun _ => ?_) (fun z => absurd (show ((d.length : Nat) : Int) ≤ 2 by omega) z)
    walk_at "rd"
    refine ⟨d, _, rfl, v4, Nat.le_trans (show d.length ≤ 2 by omega) (by decide), ?_⟩
    walk_at "rd"
    refine ifD (fun _ => ?_) (fun z => absurd (show ((n : Nat) : Int) ≤ 19 by have : n < 20 := ok; omega) z)
    walk_at "rd"
    refine ⟨d, _, rfl, v4, Nat.le_trans (show d.length ≤ 2 by omega) (by decide), ?_⟩
    walk_at "rd"
    refine ⟨Nat.lt_of_le_of_lt (Nat.log2_le_self _) (by have : n < 20 := ok; omega), ?_⟩
    walk_at "rd"
    rw [v5, decide_eq_true rfl]
    walk_at "rd"
    exact q H1 s1
  | sg c => cases hw
  | bd zb w' =>
    cases w' with
    | false => cases hw
    | true =>
      obtain ⟨ck, nl⟩ := badW_chk zb ok
      have : b = false := by
        cases b with
        | false => rfl
        | true => exact absurd (hb.mp rfl) nl
      subst this
      have l9 : zb.length ≤ 9 := l8
      have l1 : 1 ≤ zb.length := l1
      show ∃ k, _
      refine ⟨false, rfl, ?_⟩
      show if false = true then _ else _
      rw [if_neg (by decide)]
      dsimp only [tNext]
      walk_at "rd"
      refine ⟨Nat.le_trans (show zb.length ≤ 100 by omega) (by decide), ?_⟩
      walk_at "rd"
      obtain ⟨c0, g0⟩ : ∃ c, (cods zb)[0]? = some c := ⟨_, List.getElem?_eq_getElem (by rw [← len_tl]; omega)⟩
      refine ⟨zb, 0, c0, rfl, rfl, Nat.le_trans (show zb.length ≤ 100 by omega) (by decide), atI_nat (j := 0) g0, ?_⟩
      have g0' : (Tk.bd zb true).txt.cps[0]? = some c0 := by rw [← Array.getElem?_toList]; exact g0
      replace ck : chkW (Tk.bd zb true).txt ≠ 5 := ck
      unfold chkW at ck
      have ld : (cutS (Tk.bd zb true).txt (some 1) none).length ≤ zb.length := cutS_length _ _ _
      generalize cutS (Tk.bd zb true).txt (some 1) none = d at ck ld ⊢
      dsimp only at ck
      rw [g0'] at ck
      walk_at "rd"
      have l100 : d.length ≤ 100 := by omega
      by_cases e0 : c0 = 120
      · subst e0
        rw [if_neg (fun h => h rfl)] at ck
        rw [show decide (V.str ⟨#[120]⟩ = V.str (Str.ofString "x")) = true from decide_eq_true (congrArg V.str (by decide +kernel))]
        walk_at "rd"
        refine ⟨trivial, ?_⟩
        cases hd : Txt.isdigit d with
        | false =>
          refine ⟨false, rfl, ?_⟩
          walk_at "rd"
          exact q H1 s1
        | true =>
          rw [hd, if_neg (fun h => nomatch h)] at ck
          refine ⟨true, rfl, ?_⟩
          walk_at "rd"
          refine ⟨Nat.le_trans l100 (by decide), ?_⟩
          walk_at "rd"
          refine ifD (fun l2 => ?_) (fun l2 => ?_)
          · have l2 : ((d.length : Nat) : Int) ≤ 2 := l2
            rw [if_neg (by omega)] at ck
            cases hi : PySem.intText? d with
            | none => rw [hi] at ck; exact absurd rfl ck
            | some n =>
              rw [hi] at ck
              dsimp only at ck
              walk_at "rd"
              refine ⟨d, n, rfl, hi, Nat.le_trans l100 (by decide), ?_⟩
              walk_at "rd"
              refine ifD (fun n19 => ?_) (fun n19 => ?_)
              · rw [if_neg (by omega)] at ck
                have ck2 : Str.ofString (toString n) ≠ d ∧ n.natAbs < 100 := by
                  by_cases h : Str.ofString (toString n) ≠ d ∧ n.natAbs < 100
                  · exact h
                  · rw [if_neg h] at ck; exact absurd rfl ck
                walk_at "rd"
                refine ⟨d, n, rfl, hi, Nat.le_trans l100 (by decide), ?_⟩
                walk_at "rd"
                refine ⟨Nat.lt_of_le_of_lt (Nat.log2_le_self _) (by omega), ?_⟩
                walk_at "rd"
                rw [show decide (V.str (Str.ofString (toString n)) = V.str d) = false from decide_eq_false fun e => ck2.1 (V.str.inj e)]
                walk_at "rd"
                exact q H1 s1
              · show if false = true then _ else _
                rw [if_neg (by decide)]
                walk_at "rd"
                exact q H1 s1
          · walk_at "rd"
            exact q H1 s1
      · rw [show decide (V.str ⟨#[c0]⟩ = V.str (Str.ofString "x")) = false from decide_eq_false fun e => e0 (by
          have e := congrArg (fun s : Str => s.cps.toList) (V.str.inj e)
          have e : [c0] = (Str.ofString "x").cps.toList := e
          rw [show (Str.ofString "x").cps.toList = [120] by decide +kernel] at e
          exact (List.cons.inj e).1)]
        walk_at "rd"
        exact q H1 s1

/-! _split -/
def sp_u_split : Sp := fun vs H Q _ => ∃ (z : Str) (P : List (Option Tk)), vs = [.str z] ∧ cods z = lay P ∧ Oks P ∧ Sep P ∧ z.length ≤ 100000 ∧ ∀ r ws H', Same H H' → H r = none → H' r = some (.lst ws) → RwsIn H' ws (rowsOf 0 P) → Q (.ref r) H'
theorem ok_u_split (T : Tx K mg A) : FnOk P w K mg base CX0 (3) A.a_u_split A.d_u_split ["text"] sp_u_split := by
  have G_u_kind_of_word := ok_u_kind_of_word (P := P) (w := w) (base := base) T
  obtain ⟨tk_END, c_END⟩ := T.c_END
  obtain ⟨tk_SIGNS, c_SIGNS⟩ := T.c_SIGNS
  obtain ⟨tk_UNREADABLE, c_UNREADABLE⟩ := T.c_UNREADABLE
  obtain ⟨tk_WORD_CHARACTERS, c_WORD_CHARACTERS⟩ := T.c_WORD_CHARACTERS
  refine T.F_u_split.ok sc_u_split (fun vs H Q E h => ?_) (fun cdv Ar outer s0 H vs Q E hr h => ?_)
  · obtain ⟨z, P, rfl, _⟩ := h; rfl
  obtain ⟨z, P, rfl, hc, ok, sep, hz, q⟩ := h
  refine ⟨_, (pss_cons (ps_set (i := 1) sc_u_split.nd rfl (Or.inl rfl) (pe_lst pa_nil))
    (pss_cons (ps_set (i := 2) sc_u_split.nd rfl (Or.inl rfl) pe_int)
    (pss_cons (ps_while PassesOwn.never (pt_cmpR op_lt (pv 2) (pe_callB call_len_str (by rfl) T.n_len PySem.boot_len (pa_cons (pv 0) pa_nil)) (nomark _)) (pss_cons (ps_set (i := 3) sc_u_split.nd rfl (Or.inl rfl) (pv 2))
    (pss_cons (ps_if (pt_cmpR op_in_sign (pe_ix ix_str (pv 0) (pv 2) (fun _ _ => rfl)) (pe_glob (v := .str "abcdefghijklmnopqrstuvwxyzABCDEFGHIJKLMNOPQRSTUVWXYZ0123456789") rfl c_WORD_CHARACTERS ⟨_, rfl⟩) rfl) (pss_cons (ps_while PassesOwn.never (PW.pt (pw_and (pt_cmpR op_lt (pv 2) (pe_callB call_len_str (by rfl) T.n_len PySem.boot_len (pa_cons (pv 0) pa_nil)) (nomark _)) (pw_and1 (pt_cmpR op_in_sign (pe_ix ix_str (pv 0) (pv 2) (fun _ _ => rfl)) (pe_glob (v := .str "abcdefghijklmnopqrstuvwxyzABCDEFGHIJKLMNOPQRSTUVWXYZ0123456789") rfl c_WORD_CHARACTERS ⟨_, rfl⟩) rfl)))) (pss_one (ps_aug (i := 2) sc_u_split.nd rfl (Or.inl rfl) pe_int ip_add)))
    (pss_cons (ps_set (i := 4) sc_u_split.nd rfl (Or.inl rfl) (pe_slice sl_str (pv 0) (po_some (pv 3)) (po_some (pv 2))))
    (pss_cons (ps_expr (pe_bm PySem.F.plainAttrs_list PySem.F.slot_list_append PySem.F.type_list_append mt_append (pv 1) (pa_cons (pe_tup (pa_cons (pe_call G_u_kind_of_word (hr.mono (by omega)) rfl T.m_u_kind_of_word T.F_u_kind_of_word.kp T.b_u_kind_of_word .nil pass0 (pa_cons (pv 4) pa_nil)) (pa_cons (pv 4) (pa_cons (pv 3) pa_nil)))) pa_nil)))
    (pss_one ps_continue)))) pss_nil)
    (pss_cons (ps_aug (i := 2) sc_u_split.nd rfl (Or.inl rfl) pe_int ip_add)
    (pss_one (ps_if (pt_cmpR op_in_sign (pe_ix ix_str (pv 0) (pv 3) (fun _ _ => rfl)) (pe_glob (v := .str "(),=") rfl c_SIGNS ⟨_, rfl⟩) rfl) (pss_one (ps_expr (pe_bm PySem.F.plainAttrs_list PySem.F.slot_list_append PySem.F.type_list_append mt_append (pv 1) (pa_cons (pe_tup (pa_cons (pe_ix ix_str (pv 0) (pv 3) (fun _ _ => rfl)) (pa_cons (pe_ix ix_str (pv 0) (pv 3) (fun _ _ => rfl)) (pa_cons (pv 3) pa_nil)))) pa_nil)))) (pss_one (ps_if (pt_cmpR op_ne (pe_ix ix_str (pv 0) (pv 3) (fun _ _ => rfl)) pe_str (nomark _)) (pss_one (ps_expr (pe_bm PySem.F.plainAttrs_list PySem.F.slot_list_append PySem.F.type_list_append mt_append (pv 1) (pa_cons (pe_tup (pa_cons (pe_glob (v := .str "unreadable") rfl c_UNREADABLE ⟨_, rfl⟩) (pa_cons (pe_ix ix_str (pv 0) (pv 3) (fun _ _ => rfl)) (pa_cons (pv 3) pa_nil)))) pa_nil)))) pss_nil))))))))
    (pss_cons (ps_expr (pe_bm PySem.F.plainAttrs_list PySem.F.slot_list_append PySem.F.type_list_append mt_append (pv 1) (pa_cons (pe_tup (pa_cons (pe_glob (v := .str "end") rfl c_END ⟨_, rfl⟩) (pa_cons pe_str (pa_cons (pe_callB call_len_str (by rfl) T.n_len PySem.boot_len (pa_cons (pv 0) pa_nil)) pa_nil)))) pa_nil)))
    (pss_one (ps_ret (pv 1))))))), ?_⟩
  walk_at "rd"
  refine ⟨show 0 ≤ sizeLine by decide, ?_⟩
  first | intro r n1 | refine fun r n1 => ?_
  generalize ehn : upd H r _ = H1
  have s1 := J.al_same n1 ehn
  have h1 := J.al_at ehn
  clear ehn
  dsimp only [gName]
  refine seq_join (t := tAsg _ _) (fun σ' H' => σ' = [some (.str z), some (.ref r), some (.int 0), none, none] ∧ H' = H1) ?_ (fun N' cont => ?_)
  rotate_left
  · walk_at "rd"
    exact cont _ _ ⟨rfl, rfl⟩
  rintro σ' H' ⟨rfl, rfl⟩
  have zl : z.length = (cods z).length := len_tl z
  let PW : Nat → L2.St → Hp → Prop := fun m σ Hn => ∃ (at' : Nat) (P' : List (Option Tk)) (pre : List Nat) (rs : List Rw) (ws : List V) (x3 x4 : Option V), σ = [some (.str z), some (.ref r), some (.int (at' : Int)), x3, x4] ∧ m = z.length - at' ∧ cods z = pre ++ lay P' ∧ pre.length = at' ∧ (∀ t, some t ∈ P' → t.Ok) ∧ Sep P' ∧ rs ++ rowsOf at' P' = rowsOf 0 P ∧ Hn r = some (.lst ws) ∧ RwsIn Hn ws rs ∧ rs.length ≤ at' ∧ Same H Hn
  refine while_by (fun σ H => ∃ m, PW m σ H) (mu PW) ⟨z.length, ?_⟩ (fun σw Hw p => ?_) ?_
  · exact ⟨0, P, [], [], [], none, none, rfl, rfl, hc, rfl, ok, sep, rfl, h1, ⟨rfl, fun i w x a _ => by simp at a⟩, Nat.le_refl _, s1⟩
  · obtain ⟨at', P', pre, rs, ws, x3, x4, rfl, em, hcp, hpl, ok', sep', hrows, hr', hws, hrl, hS⟩ := mu_at p
    generalize mu PW _ _ = mm at em
    have ll : (cods z).length = at' + (lay P').length := by rw [hcp, List.length_append, hpl]
    walk_at "rd"
    refine ⟨Nat.le_trans hz (by decide), ?_⟩
    walk_at "rd"
    refine ifD (fun lt => ?_) (fun ge => ?_)
    · have lt : (at' : Int) < ((z.length : Nat) : Int) := lt
      have nowd : ∀ c ∈ [40, 41, 44, 61, 32, 33, 95, 43, 38], decide (c ∈ (Str.ofString "abcdefghijklmnopqrstuvwxyzABCDEFGHIJKLMNOPQRSTUVWXYZ0123456789").cps.toList) = false := fun c hc => decide_eq_false (sign_no c hc)
      cases P' with
      | nil => rw [show (lay []).length = 0 from rfl] at ll; omega
      | cons o P1 =>
        cases o with
        | none =>
          have gc : (cods z)[at']? = some 32 := by rw [hcp, List.getElem?_append_right (by omega), hpl, Nat.sub_self]; rfl
          walk_at "rd"
          refine ⟨z, (at' : Int), 32, rfl, rfl, Nat.le_trans hz (by decide), atI_nat gc, ?_⟩
          walk_at "rd"
          refine ⟨z, (at' : Int), 32, rfl, rfl, Nat.le_trans hz (by decide), atI_nat gc, ?_⟩
          walk_at "rd"
          refine ⟨z, (at' : Int), 32, rfl, rfl, Nat.le_trans hz (by decide), atI_nat gc, ?_⟩
          walk_at "rd"
          have e32 : decide (V.str ⟨#[32]⟩ = V.str (Str.ofString " ")) = true := decide_eq_true (congrArg V.str (by decide +kernel))
          rw [e32]
          walk_at "rd"
          exact less_of (k := z.length - (at' + 1)) ⟨at' + 1, P1, pre ++ [32], rs, ws, _, _, rfl, rfl, by rw [List.append_assoc]; exact hcp, by rw [List.length_append, hpl]; rfl, fun t m => ok' t (List.mem_cons_of_mem _ m), sep', hrows, hr', hws, by omega, hS⟩ (by omega)
        | some t =>
          have okt := ok' t (List.mem_cons_self ..)
          cases hw : t.isW with
          | true =>
            obtain ⟨hW, l1, l8⟩ := tk_word okt hw
            have hcw : cods z = pre ++ (cods t.txt ++ lay P1) := hcp
            have tl : t.txt.length = (cods t.txt).length := len_tl _
            have l2 : (lay (some t :: P1)).length = t.txt.length + (lay P1).length := by rw [tl]; exact List.length_append ..
            have gcs : ∀ i, i < t.txt.length → ∃ c, (cods z)[at' + i]? = some c ∧ decide (c ∈ (Str.ofString "abcdefghijklmnopqrstuvwxyzABCDEFGHIJKLMNOPQRSTUVWXYZ0123456789").cps.toList) = true := fun i hi => by
              have g : (cods t.txt)[i]? = some (cods t.txt)[i] := List.getElem?_eq_getElem (by omega)
              refine ⟨_, ?_, decide_eq_true (hW _ (List.mem_of_getElem? g))⟩
              rw [hcw, List.getElem?_append_right (by omega), hpl, Nat.add_sub_cancel_left, List.getElem?_append_left (by omega)]
              exact g
            obtain ⟨c0, g0, w0⟩ := gcs 0 (by omega)
            rw [Nat.add_zero] at g0
            walk_at "rd"
            refine ⟨z, (at' : Int), c0, rfl, rfl, Nat.le_trans hz (by decide), atI_nat g0, ?_⟩
            walk_at "rd"
            rw [w0]
            show if true = true then _ else _
            rw [if_pos rfl]
            refine seq_join (t := tWhile _ _) (fun σ' H' => σ' = [some (.str z), some (.ref r), some (.int ((at' + t.txt.length : Nat) : Int)), some (.int (at' : Int)), x4] ∧ H' = Hw) ?_ (fun N2 cont2 => ?_)
            · rintro σ' H' ⟨rfl, rfl⟩
              walk_at "rd"
              refine ⟨Nat.le_trans hz (by decide), ?_⟩
              have cm : cutS z (some ((at' : Nat) : Int)) (some ((at' + t.txt.length : Nat) : Int)) = t.txt := by rw [← hpl]; exact cut_mid hcw
              rw [cm]
              walk_at "rd"
              refine ⟨.inl ⟨rfl, _, SqL.of hr'⟩, ?_⟩
              walk_at "rd"
              refine ⟨okt, hw, fun H2 s2 => ?_⟩
              walk_at "rd"
              refine ⟨show 3 ≤ sizeLine by decide, ?_⟩
              first | intro tp n3 | refine fun tp n3 => ?_
              generalize ehn : upd H2 tp _ = H3
              have s3 := J.al_same n3 ehn
              have h3 := J.al_at ehn
              clear ehn
              have k3 := s2.trans s3
              have hr3 := k3 _ _ hr'
              walk_at "rd"
              refine ⟨r, _, _, rfl, rfl, hr3, Nat.lt_of_le_of_lt (show ws.length ≤ 100000 by rw [hws.1]; omega) (by decide), ?_⟩
              generalize ehn : upd H3 r _ = H4
              have b4 := J.al_but ehn
              have h4 := J.al_at ehn
              clear ehn
              have tu4 := (tu_same k3).trans (but_tu b4 (lst_not_tup hr3))
              walk_at "rd"
              refine less_of (k := z.length - (at' + t.txt.length)) ⟨at' + t.txt.length, P1, pre ++ cods t.txt, rs ++ [⟨t.kd, t.txt, at'⟩], _, _, _, rfl, rfl, by rw [List.append_assoc]; exact hcp, by rw [List.length_append, hpl, ← tl], fun t m => ok' t (List.mem_cons_of_mem _ m), sep'.2, by rw [List.append_assoc]; exact hrows, h4, (hws.tu tu4).snoc ⟨tp, rfl, b4 _ _ h3 (fun z => by rw [z, s2 _ _ hr'] at n3; cases n3)⟩, by rw [List.length_append, List.length_singleton]; omega, fun a ob e => b4 _ _ (k3 _ _ (hS _ _ e)) fun z => by rw [z, n1] at e; cases e⟩ (by omega)
            · let PI : Nat → L2.St → Hp → Prop := fun m σ Hn => ∃ i : Nat, i ≤ t.txt.length ∧ m = t.txt.length - i ∧ σ = [some (.str z), some (.ref r), some (.int ((at' + i : Nat) : Int)), some (.int (at' : Int)), x4] ∧ Hn = Hw
              refine while_by (fun σ H => ∃ m, PI m σ H) (mu PI) ⟨_, 0, Nat.zero_le _, rfl, rfl, rfl⟩ (fun σv Hv pv => ?_) ?_
              · obtain ⟨i, il, em2, rfl, rfl⟩ := mu_at pv
                generalize mu PI _ _ = mi at em2
                have blt : t.txt.length + (lay P1).length + at' = (cods z).length := by omega
                walk_at "rd"
                refine ⟨Nat.le_trans hz (by decide), ?_⟩
                walk_at "rd"
                refine ifD (fun lt2 => ?_) (fun ge2 => ?_)
                · have lt2 : ((at' + i : Nat) : Int) < ((z.length : Nat) : Int) := lt2
                  by_cases hi : i < t.txt.length
                  · obtain ⟨c1, g1, w1⟩ := gcs i hi
                    walk_at "rd"
                    refine ⟨z, ((at' + i : Nat) : Int), c1, rfl, rfl, Nat.le_trans hz (by decide), atI_nat g1, ?_⟩
                    walk_at "rd"
                    rw [w1]
                    show if true = true then _ else _
                    rw [if_pos rfl]
                    walk_at "rd"
                    exact less_of (k := t.txt.length - (i + 1)) ⟨i + 1, hi, rfl, rfl, rfl⟩ (by omega)
                  · have ei : i = t.txt.length := by omega
                    subst ei
                    obtain ⟨c1, h1c⟩ : ∃ c, (lay P1)[0]? = some c := ⟨_, List.getElem?_eq_getElem (by omega)⟩
                    have g1 : (cods z)[at' + t.txt.length]? = some c1 := by
                      rw [hcw, List.getElem?_append_right (by omega), hpl, Nat.add_sub_cancel_left, List.getElem?_append_right (by omega), tl, Nat.sub_self]
                      exact h1c
                    have w1 := nowd c1 (behind hw sep' (fun t m => ok' t (List.mem_cons_of_mem _ m)) c1 h1c)
                    walk_at "rd"
                    refine ⟨z, ((at' + t.txt.length : Nat) : Int), c1, rfl, rfl, Nat.le_trans hz (by decide), atI_nat g1, ?_⟩
                    walk_at "rd"
                    rw [w1]
                    show if false = true then _ else _
                    rw [if_neg (by decide)]
                    exact cont2 _ _ ⟨rfl, rfl⟩
                · have ge2 : ¬ ((at' + i : Nat) : Int) < ((z.length : Nat) : Int) := ge2
                  have ei : i = t.txt.length := by omega
                  subst ei
                  show if false = true then _ else _
                  rw [if_neg (by decide)]
                  exact cont2 _ _ ⟨rfl, rfl⟩
              · intro σ' H' Q1 Q2 m h
                unfold tAnd tTest tOp tVar tCB at h ⊢
                obtain ⟨v1, e1, v2, e2, z1, h1, h2, i, j, h3, h4, k, h5, h6⟩ := h
                refine ⟨v1, e1, v2, e2, z1, h1, h2, i, j, h3, h4, k, h5, ?_⟩
                cases k with
                | false =>
                  exact m _ _ h6
                | true =>
                  obtain ⟨v3, e3, v4, e4, z2, i2, c2, g1, g2, g3, g4, c3, z3, g5, g6, k2, g7, g8⟩ := h6
                  exact ⟨v3, e3, v4, e4, z2, i2, c2, g1, g2, g3, g4, c3, z3, g5, g6, k2, g7, m _ _ g8⟩
          | false =>
            cases t with
            | nm f => cases hw
            | vr n => cases hw
            | bd zb w' =>
              cases w' with
              | true => cases hw
              | false =>
                obtain ⟨c, mc, rfl⟩ := okt
                have gc : (cods z)[at']? = some c := by rw [hcp, List.getElem?_append_right (by omega), hpl, Nat.sub_self]; rfl
                have w1 := nowd c (by simp at mc ⊢; omega)
                obtain ⟨ns, n32⟩ := bad_no c mc
                walk_at "rd"
                refine ⟨z, (at' : Int), c, rfl, rfl, Nat.le_trans hz (by decide), atI_nat gc, ?_⟩
                walk_at "rd"
                rw [w1]
                walk_at "rd"
                refine ⟨z, (at' : Int), c, rfl, rfl, Nat.le_trans hz (by decide), atI_nat gc, ?_⟩
                have s1' : decide (c ∈ (Str.ofString "(),=").cps.toList) = false := decide_eq_false ns
                walk_at "rd"
                rw [s1']
                walk_at "rd"
                refine ⟨z, (at' : Int), c, rfl, rfl, Nat.le_trans hz (by decide), atI_nat gc, ?_⟩
                have e32 : decide (V.str ⟨#[c]⟩ = V.str (Str.ofString " ")) = false := decide_eq_false fun e => n32 (by
                  have e : (⟨#[c]⟩ : Str) = Str.ofString " " := V.str.inj e
                  have e := congrArg (fun s : Str => s.cps.toList) e
                  have e : [c] = (Str.ofString " ").cps.toList := e
                  rw [show (Str.ofString " ").cps.toList = [32] by decide +kernel] at e
                  exact (List.cons.inj e).1)
                walk_at "rd"
                rw [e32]
                walk_at "rd"
                refine ⟨.inl ⟨rfl, _, SqL.of hr'⟩, ?_⟩
                walk_at "rd"
                refine ⟨z, (at' : Int), c, rfl, rfl, Nat.le_trans hz (by decide), atI_nat gc, ?_⟩
                walk_at "rd"
                refine ⟨show 3 ≤ sizeLine by decide, ?_⟩
                first | intro tp n2 | refine fun tp n2 => ?_
                generalize ehn : upd Hw tp _ = H2
                have s2 := J.al_same n2 ehn
                have h2 := J.al_at ehn
                clear ehn
                have hr2 := s2 _ _ hr'
                walk_at "rd"
                refine ⟨r, _, _, rfl, rfl, hr2, Nat.lt_of_le_of_lt (show ws.length ≤ 100000 by rw [hws.1]; omega) (by decide), ?_⟩
                generalize ehn : upd H2 r _ = H3
                have b3 := J.al_but ehn
                have h3 := J.al_at ehn
                clear ehn
                have tu3 := (tu_same s2).trans (but_tu b3 (lst_not_tup hr2))
                exact less_of (k := z.length - (at' + 1)) ⟨at' + 1, P1, pre ++ [c], rs ++ [⟨"unreadable", ⟨#[c]⟩, at'⟩], _, _, _, rfl, rfl, by rw [List.append_assoc]; exact hcp, by rw [List.length_append, hpl]; rfl, fun t m => ok' t (List.mem_cons_of_mem _ m), sep'.2, by rw [List.append_assoc]; exact hrows, h3, (hws.tu tu3).snoc ⟨tp, rfl, b3 _ _ h2 (fun z => by rw [z, hr'] at n2; cases n2)⟩, by rw [List.length_append, List.length_singleton]; omega, fun a ob e => b3 _ _ (s2 _ _ (hS _ _ e)) fun z => by rw [z, n1] at e; cases e⟩ (by omega)
            | sg c =>
              have gc : (cods z)[at']? = some c := by rw [hcp, List.getElem?_append_right (by omega), hpl, Nat.sub_self]; rfl
              have mc : c ∈ [40, 41, 44, 61] := okt
              have w1 := nowd c (by simp at mc ⊢; omega)
              walk_at "rd"
              refine ⟨z, (at' : Int), c, rfl, rfl, Nat.le_trans hz (by decide), atI_nat gc, ?_⟩
              walk_at "rd"
              rw [w1]
              walk_at "rd"
              refine ⟨z, (at' : Int), c, rfl, rfl, Nat.le_trans hz (by decide), atI_nat gc, ?_⟩
              have s1' : decide (c ∈ (Str.ofString "(),=").cps.toList) = true := decide_eq_true (by rw [show (Str.ofString "(),=").cps.toList = [40, 41, 44, 61] from sign_in]; exact mc)
              walk_at "rd"
              rw [s1']
              walk_at "rd"
              refine ⟨.inl ⟨rfl, _, SqL.of hr'⟩, ?_⟩
              walk_at "rd"
              refine ⟨z, (at' : Int), c, rfl, rfl, Nat.le_trans hz (by decide), atI_nat gc, ?_⟩
              walk_at "rd"
              refine ⟨z, (at' : Int), c, rfl, rfl, Nat.le_trans hz (by decide), atI_nat gc, ?_⟩
              walk_at "rd"
              refine ⟨show 3 ≤ sizeLine by decide, ?_⟩
              first | intro tp n2 | refine fun tp n2 => ?_
              generalize ehn : upd Hw tp _ = H2
              have s2 := J.al_same n2 ehn
              have h2 := J.al_at ehn
              clear ehn
              have hr2 := s2 _ _ hr'
              walk_at "rd"
              refine ⟨r, _, _, rfl, rfl, hr2, Nat.lt_of_le_of_lt (show ws.length ≤ 100000 by rw [hws.1]; omega) (by decide), ?_⟩
              generalize ehn : upd H2 r _ = H3
              have b3 := J.al_but ehn
              have h3 := J.al_at ehn
              clear ehn
              have tu3 := (tu_same s2).trans (but_tu b3 (lst_not_tup hr2))
              refine less_of (k := z.length - (at' + 1)) ⟨at' + 1, P1, pre ++ [c], rs ++ [⟨⟨#[c]⟩, ⟨#[c]⟩, at'⟩], _, _, _, rfl, rfl, by rw [List.append_assoc]; exact hcp, by rw [List.length_append, hpl]; rfl, fun t m => ok' t (List.mem_cons_of_mem _ m), sep'.2, by rw [List.append_assoc]; exact hrows, h3, (hws.tu tu3).snoc ⟨tp, rfl, b3 _ _ h2 (fun z => by rw [z, hr'] at n2; cases n2)⟩, by rw [List.length_append, List.length_singleton]; omega, fun a ob e => b3 _ _ (s2 _ _ (hS _ _ e)) fun z => by rw [z, n1] at e; cases e⟩ (by omega)
    · walk_at "rd"
      refine ⟨.inl ⟨rfl, _, SqL.of hr'⟩, ?_⟩
      walk_at "rd"
      refine ⟨Nat.le_trans hz (by decide), ?_⟩
      walk_at "rd"
      refine ⟨show 3 ≤ sizeLine by decide, ?_⟩
      first | intro tp n2 | refine fun tp n2 => ?_
      generalize ehn : upd Hw tp _ = H2
      have s2 := J.al_same n2 ehn
      have h2 := J.al_at ehn
      clear ehn
      have hr2 := s2 _ _ hr'
      walk_at "rd"
      refine ⟨r, _, _, rfl, rfl, hr2, Nat.lt_of_le_of_lt (show ws.length ≤ 100000 by rw [hws.1]; omega) (by decide), ?_⟩
      generalize ehn : upd H2 r _ = H3
      have b3 := J.al_but ehn
      have h3 := J.al_at ehn
      clear ehn
      have tu3 := (tu_same s2).trans (but_tu b3 (lst_not_tup hr2))
      walk_at "rd"
      have ge : ¬ (at' : Int) < ((z.length : Nat) : Int) := ge
      have eP := lay_nil ok' (by omega)
      subst eP
      have ea : at' = z.length := by rw [show (lay []).length = 0 from rfl] at ll; omega
      refine q r _ H3 (fun a ob e => b3 _ _ (s2 _ _ (hS _ _ e)) fun z => by rw [z, n1] at e; cases e) n1 h3 ?_
      rw [← hrows]
      exact (hws.tu tu3).snoc ⟨tp, rfl, by rw [← ea] at h2; exact b3 _ _ h2 (fun z => by rw [z, hr'] at n2; cases n2)⟩
  · intro σ' H' Q1 Q2 m h
    unfold tTest tOp tVar tCB at h ⊢
    obtain ⟨v1, e1, v2, e2, z1, h1, h2, i, j, h3, h4, k, h5, h6⟩ := h
    exact ⟨v1, e1, v2, e2, z1, h1, h2, i, j, h3, h4, k, h5, m _ _ h6⟩

/-! Tokens.__init__ -/
def sp_Tokens___init (C : Addr) : Sp := fun vs H Q _ => ∃ (p dx : Addr) (z : Str) (P : List (Option Tk)), vs = [.ref p, .str z] ∧ H p = some (.ins C dx []) ∧ cods z = lay P ∧ Oks P ∧ Sep P ∧ z.length ≤ 100000 ∧
  ∀ r ws H', H r = none → H' p = some (.ins C dx [("_rows", .ref r), ("_at", .int 0)]) → H' r = some (.lst ws) → RwsIn H' ws (rowsOf 0 P) → But p H H' → Q .non H'
theorem ok_Tokens___init (T : Tx K mg A) : FnOk P w K mg base CX0 4 A.a_Tokens___init A.d_Tokens___init ["self", "text"] (sp_Tokens___init A.c_Tokens) := by
  have G_u_split := ok_u_split (P := P) (w := w) (base := base) T
  refine T.F_Tokens___init.ok sc_Tokens___init (fun vs H Q E h => ?_) (fun cdv Ar outer s0 H vs Q E hr h => ?_)
  · obtain ⟨p, dx, z, P, rfl, _⟩ := h; rfl
  obtain ⟨p, dx, z, P, rfl, hp, hc, ok, sep, hz, q⟩ := h
  refine ⟨_, (pss_cons (ps_fld (pv 0) (pe_call G_u_split (hr.mono (by omega)) rfl T.m_u_split T.F_u_split.kp T.b_u_split .nil pass0 (pa_cons (pv 1) pa_nil)) rfl)
    (pss_one (ps_fld (pv 0) pe_int rfl))), ?_⟩
  walk_at "rd"
  refine ⟨z, P, rfl, hc, ok, sep, hz, fun r ws H1 s1 n1 h1 hw => ?_⟩
  walk_at "rd"
  refine ⟨p, _, dx, [], rfl, s1 _ _ hp, T.K_Tokens, T.N_Tokens__rows, (by show 0 < 1000; decide), ?_⟩
  generalize ehn : upd H1 p _ = H2
  have b2 := J.al_but ehn
  have h2 := J.al_at ehn
  clear ehn
  walk_at "rd"
  refine ⟨p, _, dx, _, rfl, h2, T.K_Tokens, T.N_Tokens__at, (by show 1 < 1000; decide), ?_⟩
  rw [show putF ("_rows" : Str) (V.ref r) [] = [(("_rows" : Str), V.ref r)] from rfl, tk_flds2]
  generalize ehn : upd H2 p _ = H3
  have b3 := J.al_but ehn
  have h3 := J.al_at ehn
  clear ehn
  have rp : r ≠ p := fun z => by rw [z, hp] at n1; cases n1
  have b13 : But p H1 H3 := But.trans b2 b3
  have t13 : Tu H1 H3 := fun a xs e => b13 _ _ e fun z => by rw [z, s1 _ _ hp] at e; cases e
  exact q r ws H3 n1 h3 (b13 _ _ h1 rp) (hw.tu t13) (fun a o e ne => b13 _ _ (s1 _ _ e) ne)

/-! read_equation -/
def sp_read_equation (B : Addr) : Sp := fun vs H Q E => ∃ (z : Str) (P C : List (Option Tk)) (t u : Tm) (fs : List Str), vs = [.str z] ∧ cods z = lay (P ++ C) ∧ Oks (P ++ C) ∧ Sep (P ++ C) ∧ C.head? ≠ some none ∧ z.length ≤ 100000 ∧ t.wf fs 20 ∧ u.wf fs 20 ∧ fs.length ≤ 5 ∧ t.dep ≤ 30 ∧ u.dep ≤ 30 ∧
  ((P.filterMap id = tkl t ∧ (hdRow C 0).kd ≠ ("(" : Str) ∧ (hdRow C 0).kd ≠ ("=" : Str)) ∨ (∃ T2, P.filterMap id = tkl t ++ (.sg 61 :: T2) ∧ Stop T2 u (hdRow C 0).kd)) ∧
  ∀ d H', Same H H' → H' d = some (.xd [("index", .int ((lay P).length : Int))]) → E (.ref B) (some d) H'
theorem ok_read_equation (T : Tx K mg A) : FnOk P w K mg base (L2N.CX P w) 67 A.a_read_equation A.d_read_equation ["text"] (sp_read_equation A.c_Malformed) := by
  have G_Tokens___init := ok_Tokens___init (P := P) (w := w) (base := base) T
  have G_Tokens_take := ok_Tokens_take (P := P) (w := w) (base := base) T
  have G_u_read_part := ok_u_read_part (P := P) (w := w) (base := base) T
  obtain ⟨tk_END, c_END⟩ := T.c_END
  refine okN T.F_read_equation sc_read_equation (fun vs H Q E h => ?_) (fun cdv Ar outer s0 H vs Q E hr h => ?_)
  · obtain ⟨z, P, C, t, u, fs, rfl, _⟩ := h; rfl
  obtain ⟨z, P, C, t, u, fs, rfl, hc, ok, sep, hC, hz, wt, wu, f5, dt, du, st, qe⟩ := h
  refine ⟨_, (pss_cons (ps_set (i := 1) sc_read_equation.nd rfl (Or.inl rfl) (pe_make T.M_Tokens G_Tokens___init (hr.mono (by omega)) rfl T.g_Tokens T.b_Tokens___init .nil pass0 (pa_cons (pv 0) pa_nil)))
    (pss_cons (ps_set (i := 2) sc_read_equation.nd rfl (Or.inl rfl) (pe_call G_u_read_part (hr.mono (by omega)) rfl T.m_u_read_part T.F_u_read_part.kp T.b_u_read_part .nil (L2N.passes_call (L2N.takes_of rfl rfl rfl rfl) fun _ _ _ _ h => h) (pa_cons (pv 1) pa_nil)))
    (pss_cons (ps_expr (pe_meth (pv 1) T.K_Tokens T.H_Tokens_take G_Tokens_take (hr.mono (by omega)) T.b_Tokens_take .nil (L2N.passes_call (L2N.takes_of rfl rfl rfl rfl) fun _ _ _ _ h => h) (pa_cons (pe_tup (pa_cons pe_str pa_nil)) pa_nil)))
    (pss_cons (ps_set (i := 3) sc_read_equation.nd rfl (Or.inl rfl) (pe_call G_u_read_part (hr.mono (by omega)) rfl T.m_u_read_part T.F_u_read_part.kp T.b_u_read_part .nil (L2N.passes_call (L2N.takes_of rfl rfl rfl rfl) fun _ _ _ _ h => h) (pa_cons (pv 1) pa_nil)))
    (pss_cons (ps_expr (pe_meth (pv 1) T.K_Tokens T.H_Tokens_take G_Tokens_take (hr.mono (by omega)) T.b_Tokens_take .nil (L2N.passes_call (L2N.takes_of rfl rfl rfl rfl) fun _ _ _ _ h => h) (pa_cons (pe_tup (pa_cons (pe_glob (v := .str "end") rfl c_END ⟨_, rfl⟩) pa_nil)) pa_nil)))
    (pss_cons ps_never
    (pss_cons ps_never
    (pss_one ps_never)))))))), ?_⟩
  walk_at "rd"
  refine fun p dx np ndx ne => ?_
  have s0 : Same H (upd (upd H dx (.own p)) p (.ins A.c_Tokens dx [])) := fun b o e => by
    rw [upd_ne (ne_of_none e np), upd_ne (ne_of_none e ndx)]
    exact e
  have h0 : upd (upd H dx (.own p)) p (.ins A.c_Tokens dx []) p = some (.ins A.c_Tokens dx []) := upd_same
  generalize upd (upd H dx (.own p)) p (.ins A.c_Tokens dx []) = H0 at s0 h0
  refine ⟨p, dx, z, P ++ C, rfl, h0, hc, ok, sep, hz, fun r ws H1 nr hp1 hr1 hw b1 => ⟨rfl, ?_⟩⟩
  have rp : r ≠ p := fun z => by rw [z, h0] at nr; cases nr
  have hT1 : TkAt A.c_Tokens H1 p dx r 0 ws (rowsOf 0 (P ++ C)) := ⟨hp1, hr1, hw, rp⟩
  have s1 : Same H H1 := fun c o e => b1 _ _ (s0 _ _ e) (ne_of_none e np)
  have ha := rows_at P C hC
  have kx : (hdRow C (lay P).length).kd = (hdRow C 0).kd := by cases C with | nil => rfl | cons o C => cases o <;> rfl
  have ix : (hdRow C (lay P).length).ix = (lay P).length := by cases C with | nil => rfl | cons o C => cases o <;> rfl
  generalize hdRow C (lay P).length = x at ha kx ix
  rw [← kx] at st
  have qe' : ∀ d H', But p H1 H' → H' d = some (.xd [("index", .int (x.ix : Int))]) → E (.ref A.c_Malformed) (some d) H' := fun d H' b hd => qe d H' (fun a ob e => b _ _ (s1 _ _ e) (ne_of_none e np)) (by rw [← ix]; exact hd)
  obtain ⟨x0, ha0, n0⟩ : ∃ x0, At (rowsOf 0 (P ++ C)) 0 (tkl t) x0 ∧ x0.kd ≠ ("(" : Str) := by
    rcases st with ⟨e, h, _⟩ | ⟨T2, e, _⟩
    · rw [e] at ha; exact ⟨x, ha, h⟩
    · rw [e] at ha
      obtain ⟨x0, h0, ⟨e1, _⟩ | ⟨u1, U', e1, e2⟩⟩ := ha.pre
      · cases e1
      · refine ⟨x0, h0, ?_⟩
        rw [e2, ← (List.cons.inj e1).1]
        decide +kernel
  walk_at "rd"
  refine ⟨p, dx, r, 0, ws, _, t, x0, _, fs, rfl, hT1, ha0, wt, f5, by omega, .inl ⟨rfl, n0⟩, fun v H2 b2 hT2 hv _ => ?_, fun h => (pre_irr h).elim⟩
  have hp2 := hT2.1
  walk_at "rd"
  refine ⟨p, dx, _, rfl, hp2, tk_no _ _ (by decide +kernel) (by decide +kernel), ?_⟩
  walk_at "rd"
  refine ⟨show 1 ≤ sizeLine by decide, ?_⟩
  first | intro k1 n3 | refine fun k1 n3 => ?_
  generalize ehn : upd H2 k1 _ = H3
  have s3 := J.al_same n3 ehn
  have h3 := J.al_at ehn
  clear ehn
  have hT3 := hT2.same s3
  have b13 : But p H1 H3 := b2.trans (but_same s3)
  walk_at "rd"
  rcases st with ⟨e, _, ne⟩ | ⟨T2, e, st2⟩
  · rw [e] at ha
    obtain ⟨R, _, gx⟩ := ha
    exact ⟨p, dx, r, k1, _, ws, _, x, ["="], rfl, hT3.1, hT3.2.1, hT3.2.2.1, gx, h3, fun m => absurd (List.mem_singleton.mp m) ne, fun _ d H4 s4 hd => qe' d H4 (b13.trans (but_same s4)) hd⟩
  rw [e] at ha
  obtain ⟨⟨y, gy, ey, _⟩, ha2⟩ := ha.drop.cons
  have ey : y.kd = ("=" : Str) := ey.trans (by decide +kernel)
  refine ⟨p, dx, r, k1, _, ws, _, y, ["="], rfl, hT3.1, hT3.2.1, hT3.2.2.1, gy, h3, fun _ yy H4 b4 hp4 hyy => ?_, fun m => absurd (by rw [ey]; exact List.mem_cons_self ..) m⟩
  have hT4 := hT3.but b4 hp4
  have b14 : But p H1 H4 := b13.trans b4
  walk_at "rd"
  refine ⟨p, dx, r, _, ws, _, u, x, T2, fs, rfl, hT4, ha2, wu, f5, by omega, ?_, fun v5 H5 b5 hT5 hv5 hpre => ?_, fun _ d H5 b5 hd => qe' d H5 (b14.trans b5) hd⟩
  · rcases st2 with ⟨e, h, _⟩ | ⟨e, h, _⟩
    · exact .inl ⟨e, h⟩
    · exact .inr ⟨e, h⟩
  have nend : x.kd ∉ [("end" : Str)] := fun m => by
    have e := List.mem_singleton.mp m
    rcases st2 with ⟨_, _, h⟩ | ⟨h1, _, h | h⟩
    · exact h e
    · exact h e
    · obtain ⟨f, hf⟩ := hpre h1
      exact h f hf
  have hp5 := hT5.1
  obtain ⟨R, _, gx⟩ := ha2
  walk_at "rd"
  refine ⟨p, dx, _, rfl, hp5, tk_no _ _ (by decide +kernel) (by decide +kernel), ?_⟩
  walk_at "rd"
  refine ⟨show 1 ≤ sizeLine by decide, ?_⟩
  first | intro k2 n6 | refine fun k2 n6 => ?_
  generalize ehn : upd H5 k2 _ = H6
  have s6 := J.al_same n6 ehn
  have h6 := J.al_at ehn
  clear ehn
  have hT6 := hT5.same s6
  walk_at "rd"
  exact ⟨p, dx, r, k2, _, ws, _, x, ["end"], rfl, hT6.1, hT6.2.1, hT6.2.2.1, gx, h6, fun m => absurd m nend, fun _ d H7 s7 hd => qe' d H7 (b14.trans (b5.trans (but_same (s6.trans s7)))) hd⟩

/-! read_term -/
def sp_read_term (B : Addr) : Sp := fun vs H Q E => ∃ (z : Str) (P C : List (Option Tk)) (t : Tm) (fs : List Str), vs = [.str z] ∧ cods z = lay (P ++ C) ∧ Oks (P ++ C) ∧ Sep (P ++ C) ∧ C.head? ≠ some none ∧ z.length ≤ 100000 ∧ t.wf fs 20 ∧ fs.length ≤ 5 ∧ t.dep ≤ 30 ∧
  ((P.filterMap id = tkl t ∧ (hdRow C 0).kd ≠ ("(" : Str) ∧ (hdRow C 0).kd ≠ ("end" : Str)) ∨ (Pre (P.filterMap id) (tkl t) ∧ BadK (hdRow C 0).kd ∧ ((hdRow C 0).kd ≠ ("end" : Str) ∨ ∀ f, P.filterMap id ≠ [.nm f]))) ∧
  ∀ d H', Same H H' → H' d = some (.xd [("index", .int ((lay P).length : Int))]) → E (.ref B) (some d) H'
theorem ok_read_term (T : Tx K mg A) : FnOk P w K mg base (L2N.CX P w) 67 A.a_read_term A.d_read_term ["text"] (sp_read_term A.c_Malformed) := by
  have G_Tokens___init := ok_Tokens___init (P := P) (w := w) (base := base) T
  have G_Tokens_take := ok_Tokens_take (P := P) (w := w) (base := base) T
  have G_u_read_part := ok_u_read_part (P := P) (w := w) (base := base) T
  obtain ⟨tk_END, c_END⟩ := T.c_END
  refine okN T.F_read_term sc_read_term (fun vs H Q E h => ?_) (fun cdv Ar outer s0 H vs Q E hr h => ?_)
  · obtain ⟨z, P, C, t, fs, rfl, _⟩ := h; rfl
  obtain ⟨z, P, C, t, fs, rfl, hc, ok, sep, hC, hz, wt, f5, dt, st, qe⟩ := h
  refine ⟨_, (pss_cons (ps_set (i := 1) sc_read_term.nd rfl (Or.inl rfl) (pe_make T.M_Tokens G_Tokens___init (hr.mono (by omega)) rfl T.g_Tokens T.b_Tokens___init .nil pass0 (pa_cons (pv 0) pa_nil)))
    (pss_cons (ps_set (i := 2) sc_read_term.nd rfl (Or.inl rfl) (pe_call G_u_read_part (hr.mono (by omega)) rfl T.m_u_read_part T.F_u_read_part.kp T.b_u_read_part .nil (L2N.passes_call (L2N.takes_of rfl rfl rfl rfl) fun _ _ _ _ h => h) (pa_cons (pv 1) pa_nil)))
    (pss_cons (ps_expr (pe_meth (pv 1) T.K_Tokens T.H_Tokens_take G_Tokens_take (hr.mono (by omega)) T.b_Tokens_take .nil (L2N.passes_call (L2N.takes_of rfl rfl rfl rfl) fun _ _ _ _ h => h) (pa_cons (pe_tup (pa_cons (pe_glob (v := .str "end") rfl c_END ⟨_, rfl⟩) pa_nil)) pa_nil)))
    (pss_cons ps_never
    (pss_one (ps_ret (pv 2))))))), ?_⟩
  walk_at "rd"
  refine fun p dx np ndx ne => ?_
  have s0 : Same H (upd (upd H dx (.own p)) p (.ins A.c_Tokens dx [])) := fun b o e => by
    rw [upd_ne (ne_of_none e np), upd_ne (ne_of_none e ndx)]
    exact e
  have h0 : upd (upd H dx (.own p)) p (.ins A.c_Tokens dx []) p = some (.ins A.c_Tokens dx []) := upd_same
  generalize upd (upd H dx (.own p)) p (.ins A.c_Tokens dx []) = H0 at s0 h0
  refine ⟨p, dx, z, P ++ C, rfl, h0, hc, ok, sep, hz, fun r ws H1 nr hp1 hr1 hw b1 => ⟨rfl, ?_⟩⟩
  have rp : r ≠ p := fun z => by rw [z, h0] at nr; cases nr
  have hT1 : TkAt A.c_Tokens H1 p dx r 0 ws (rowsOf 0 (P ++ C)) := ⟨hp1, hr1, hw, rp⟩
  have s1 : Same H H1 := fun c o e => b1 _ _ (s0 _ _ e) (ne_of_none e np)
  have ha := rows_at P C hC
  have kx : (hdRow C (lay P).length).kd = (hdRow C 0).kd := by cases C with | nil => rfl | cons o C => cases o <;> rfl
  have ix : (hdRow C (lay P).length).ix = (lay P).length := by cases C with | nil => rfl | cons o C => cases o <;> rfl
  generalize hdRow C (lay P).length = x at ha kx ix
  rw [← kx] at st
  have qe' : ∀ d H', But p H1 H' → H' d = some (.xd [("index", .int (x.ix : Int))]) → E (.ref A.c_Malformed) (some d) H' := fun d H' b hd => qe d H' (fun a ob e => b _ _ (s1 _ _ e) (ne_of_none e np)) (by rw [← ix]; exact hd)
  walk_at "rd"
  refine ⟨p, dx, r, 0, ws, _, t, x, _, fs, rfl, hT1, ha, wt, f5, by omega, ?_, fun v H2 b2 hT2 hv hpre => ?_, fun _ d H2 b2 hd => qe' d H2 b2 hd⟩
  · rcases st with ⟨e, h, _⟩ | ⟨e, h, _⟩
    · exact .inl ⟨e, h⟩
    · exact .inr ⟨e, h⟩
  have ne : x.kd ∉ [("end" : Str)] := fun m => by
    have e := List.mem_singleton.mp m
    rcases st with ⟨_, _, h⟩ | ⟨h1, _, h | h⟩
    · exact h e
    · exact h e
    · obtain ⟨f, hf⟩ := hpre h1
      exact h f hf
  have hp2 := hT2.1
  obtain ⟨R, _, gx⟩ := ha
  walk_at "rd"
  refine ⟨p, dx, _, rfl, hp2, tk_no _ _ (by decide +kernel) (by decide +kernel), ?_⟩
  walk_at "rd"
  refine ⟨show 1 ≤ sizeLine by decide, ?_⟩
  first | intro k1 n3 | refine fun k1 n3 => ?_
  generalize ehn : upd H2 k1 _ = H3
  have s3 := J.al_same n3 ehn
  have h3 := J.al_at ehn
  clear ehn
  have hT3 := hT2.same s3
  walk_at "rd"
  exact ⟨p, dx, r, k1, _, ws, _, x, ["end"], rfl, hT3.1, hT3.2.1, hT3.2.2.1, gx, h3, fun m => absurd m ne, fun _ d H4 s4 hd => qe' d H4 (b2.trans (but_same (s3.trans s4))) hd⟩

/-! _law_is_integer -/
def sp_u_law_is_integer : Sp := fun vs H Q _ => ∃ n : Int, vs = [.int n] ∧ Q (.bl true) H
theorem ok_u_law_is_integer (T : Tx K mg A) : FnOk P w K mg base CX0 (1) A.a_u_law_is_integer A.d_u_law_is_integer ["actual"] sp_u_law_is_integer := by

  refine T.F_u_law_is_integer.ok sc_u_law_is_integer (fun vs H Q E h => ?_) (fun cdv Ar outer s0 H vs Q E hr h => ?_)
  · obtain ⟨n, rfl, _⟩ := h; rfl
  obtain ⟨n, rfl, q⟩ := h
  refine ⟨_, (pss_one (ps_ret (pe_and (pe_callB (r := rIsi K) call_isi (by rfl) T.n_isinstance boot_isinstance (pa_cons (pv 0) (pa_cons (pe_bltn (v := .ty "int") (by rfl) T.n_int boot_int rfl) pa_nil))) (pe_one (pe_not (pe_callB (r := rIsi K) call_isi (by rfl) T.n_isinstance boot_isinstance (pa_cons (pv 0) (pa_cons (pe_bltn (v := .ty "bool") (by rfl) T.n_bool boot_bool rfl) pa_nil)))))))), ?_⟩
  walk_at "ri"
  exact q

/-! _law_told -/
theorem okH_u_law_is_integer (T : Tx K mg A) : L2H.FnH P w K mg base CX0 1 A.a_u_law_is_integer A.d_u_law_is_integer ["actual"] sp_u_law_is_integer := by
  refine okH T.F_u_law_is_integer sc_u_law_is_integer (fun vs H Q E h => ?_) (fun cdv Ar outer s0 H vs Q E p hr h => ?_)
  · obtain ⟨n, rfl, _⟩ := h; rfl
  obtain ⟨n, rfl, q⟩ := h
  refine ⟨_, (pss_one (ps_ret (pe_and (pe_callB (r := rIsi K) call_isi (by rfl) T.n_isinstance boot_isinstance (pa_cons (pv 0) (pa_cons (pe_bltn (v := .ty "int") (by rfl) T.n_int boot_int rfl) pa_nil))) (pe_one (pe_not (pe_callB (r := rIsi K) call_isi (by rfl) T.n_isinstance boot_isinstance (pa_cons (pv 0) (pa_cons (pe_bltn (v := .ty "bool") (by rfl) T.n_bool boot_bool rfl) pa_nil)))))))), ?_⟩
  walk_at "ri"
  exact q
def sp_u_law_told : Sp := fun vs H Q _ => ∃ (z : Str) (P C : List (Option Tk)) (t u : Tm) (fs : List Str) (b : Bool), vs = [.str z, .bl b] ∧ cods z = lay (P ++ C) ∧ Oks (P ++ C) ∧ Sep (P ++ C) ∧ C.head? ≠ some none ∧ z.length ≤ 100000 ∧ t.wf fs 20 ∧ u.wf fs 20 ∧ fs.length ≤ 5 ∧ t.dep ≤ 30 ∧ u.dep ≤ 30 ∧
  ((b = false ∧ Stop (P.filterMap id) t (hdRow C 0).kd) ∨ (b = true ∧ ((P.filterMap id = tkl t ∧ (hdRow C 0).kd ≠ ("(" : Str) ∧ (hdRow C 0).kd ≠ ("=" : Str)) ∨ (∃ T2, P.filterMap id = tkl t ++ (.sg 61 :: T2) ∧ Stop T2 u (hdRow C 0).kd)))) ∧
  ∀ H', Same H H' → Q (.int ((lay P).length : Int)) H'
theorem ok_u_law_told (T : Tx K mg A) : FnOk P w K mg base CX0 (68) A.a_u_law_told A.d_u_law_told ["text", "is_equation"] sp_u_law_told := by
  have G_read_equation := ok_read_equation (P := P) (w := w) (base := base) T
  have G_read_term := ok_read_term (P := P) (w := w) (base := base) T
  refine T.F_u_law_told.ok sc_u_law_told (fun vs H Q E h => ?_) (fun cdv Ar outer s0 H vs Q E hr h => ?_)
  · obtain ⟨z, Pc, C, t, u, fs, b, rfl, _⟩ := h; rfl
  obtain ⟨z, Pc, C, t, u, fs, b, rfl, hc, ok, sep, hC, hz, wt, wu, f5, dt, du, st, q⟩ := h
  refine ⟨_, (pss_cons (L2N.ps_try_as (i := 2) rfl rfl sc_u_law_told.nd rfl rfl ⟨rfl, by decide, .inl T.E_Malformed.gC⟩ takesN0 (fun W pn xe tk _ => (pss_one (ps_if (pt_val (pv 1)) (pss_one (ps_expr (pe_callS G_read_equation (hr.mono (by omega)) rfl T.m_read_equation T.F_read_equation.kp T.b_read_equation (fun σ => L2N.passAt tk σ) (pa_cons (pv 0) pa_nil)))) (pss_one (ps_expr (pe_callS G_read_term (hr.mono (by omega)) rfl T.m_read_term T.F_read_term.kp T.b_read_term (fun σ => L2N.passAt tk σ) (pa_cons (pv 0) pa_nil))))))) (fun ea oe cls d pn hz hf => pss_assume (p := cls = .ref A.c_Malformed) fun hp => (pss_one (ps_if (PW.pt (pw_and (pt_val (pe_callB (r := rIsED K A.c_Malformed ea d) (call_isED T.E_Malformed.dC (hp ▸ hz.zc) hf) (by rfl) T.n_isinstance boot_isinstance (pa_cons (pv 2) (pa_cons (pe_glob (v := .ref A.c_HallError) rfl T.E_HallError.gC rfl) pa_nil)))) (pw_and (pt_val (pe_callB (r := rIsED K A.c_Malformed ea d) (call_isED T.E_Malformed.dC (hp ▸ hz.zc) hf) (by rfl) T.n_isinstance boot_isinstance (pa_cons (pv 2) (pa_cons (pe_bltn (v := .ty "ValueError") (by rfl) T.n_ValueError (by decide +kernel) rfl) pa_nil)))) (pw_and1 (pt_val (L2H.pe_callH (E := fun _ => E0) (okH_u_law_is_integer (P := P) (w := w) (base := base) T) (L2H.roomH_mark (hr.mono (by omega)) _) (hot_of hz hf) rfl T.m_u_law_is_integer T.F_u_law_is_integer.kp T.b_u_law_is_integer (fun _ => passH0) (pa_cons (pe_xf T.E_Malformed.xC T.nf_index hz.zc hf (pv 2)) pa_nil))))))) (pss_one (ps_ret (pe_xf T.E_Malformed.xC T.nf_index hz.zc hf (pv 2)))) pss_nil))))
    (pss_one (ps_ret pe_non))), ?_⟩
  walk_at "rd"
  rcases st with ⟨rfl, st⟩ | ⟨rfl, st⟩
  · walk_at "rd"
    refine ⟨z, Pc, C, t, fs, rfl, hc, ok, sep, hC, hz, wt, f5, dt, st, fun d H' s' hd => ?_⟩
    refine ⟨true, T.E_Malformed.eC, fun _ e he => ⟨rfl, ?_⟩, fun z => nomatch z⟩
    refine ⟨_, rfl, ?_⟩
    refine ⟨V.ref A.c_HallError, .ref A.c_HallError, true, d, _, rfl, fun u r => by cases r; rfl, T.kit_Malformed_HallError, rfl, hd, true, rfl, ?_⟩
    walk_at "rd"
    refine ⟨V.ty "ValueError", .type "ValueError", true, d, _, rfl, fun u r => by cases r; rfl, T.kit_Malformed_ValueError, rfl, hd, ?_⟩
    walk_at "rd"
    refine ⟨d, _, .int ((lay Pc).length : Int), rfl, hd, rfl, ?_⟩
    refine ⟨((lay Pc).length : Int), rfl, ?_⟩
    walk_at "rd"
    exact ⟨d, _, .int ((lay Pc).length : Int), rfl, hd, rfl, q _ s'⟩
  · walk_at "rd"
    refine ⟨z, Pc, C, t, u, fs, rfl, hc, ok, sep, hC, hz, wt, wu, f5, dt, du, st, fun d H' s' hd => ?_⟩
    refine ⟨true, T.E_Malformed.eC, fun _ e he => ⟨rfl, ?_⟩, fun z => nomatch z⟩
    refine ⟨_, rfl, ?_⟩
    refine ⟨V.ref A.c_HallError, .ref A.c_HallError, true, d, _, rfl, fun u r => by cases r; rfl, T.kit_Malformed_HallError, rfl, hd, true, rfl, ?_⟩
    walk_at "rd"
    refine ⟨V.ty "ValueError", .type "ValueError", true, d, _, rfl, fun u r => by cases r; rfl, T.kit_Malformed_ValueError, rfl, hd, ?_⟩
    walk_at "rd"
    refine ⟨d, _, .int ((lay Pc).length : Int), rfl, hd, rfl, ?_⟩
    refine ⟨((lay Pc).length : Int), rfl, ?_⟩
    walk_at "rd"
    exact ⟨d, _, .int ((lay Pc).length : Int), rfl, hd, rfl, q _ s'⟩

/-! law -/
def sp_law (K : PySem.W.Frag) : Sp := fun vs H Q _ => ∃ (a : Addr) (ns : List Int), vs = [.ref a] ∧ SqL K H a (ns.map V.int) ∧ ns.length ≤ 63 ∧ ∀ H', Q (.bl true) H'
theorem ok_law (T : Tx K mg A) : FnOk P w K mg base CX0 80 A.a_law A.d_law ["script"] (sp_law K) := by
  have G_u_law_draw := ok_u_law_draw (P := P) (w := w) (base := base) T
  have G_u_law_operations := ok_u_law_operations (P := P) (w := w) (base := base) T
  have G_u_law_spoilt := ok_u_law_spoilt (P := P) (w := w) (base := base) T
  have G_u_law_state := ok_u_law_state (P := P) (w := w) (base := base) T
  have G_u_law_term := ok_u_law_term (P := P) (w := w) (base := base) T
  have G_u_law_text := ok_u_law_text (P := P) (w := w) (base := base) T
  have G_u_law_tokens := ok_u_law_tokens (P := P) (w := w) (base := base) T
  have G_u_law_told := ok_u_law_told (P := P) (w := w) (base := base) T
  refine T.F_law.ok sc_law (fun vs H Q E h => ?_) (fun cdv Ar outer s0 H vs Q E hr h => ?_)
  · obtain ⟨a, ns, rfl, _⟩ := h; rfl
  obtain ⟨a, ns, rfl, hS, h63, q⟩ := h
  refine ⟨_, (pss_cons (ps_set (i := 1) sc_law.nd rfl (Or.inl rfl) (pe_call G_u_law_state (hr.mono (by omega)) rfl T.m_u_law_state T.F_u_law_state.kp T.b_u_law_state .nil pass0 (pa_cons (pv 0) pa_nil)))
    (pss_cons (ps_set (i := 2) sc_law.nd rfl (Or.inl rfl) (pe_call G_u_law_operations (hr.mono (by omega)) rfl T.m_u_law_operations T.F_u_law_operations.kp T.b_u_law_operations .nil pass0 (pa_cons (pv 1) pa_nil)))
    (pss_cons (ps_set (i := 3) sc_law.nd rfl (Or.inl rfl) (pe_call G_u_law_term (hr.mono (by omega)) rfl T.m_u_law_term T.F_u_law_term.kp T.b_u_law_term .nil pass0 (pa_cons (pv 1) (pa_cons (pv 2) (pa_cons (pe_call G_u_law_draw (hr.mono (by omega)) rfl T.m_u_law_draw T.F_u_law_draw.kp T.b_u_law_draw .nil pass0 (pa_cons (pv 1) (pa_cons pe_int pa_nil))) (pa_cons pe_int pa_nil))))))
    (pss_cons (ps_asg (pe_call G_u_law_spoilt (hr.mono (by omega)) rfl T.m_u_law_spoilt T.F_u_law_spoilt.kp T.b_u_law_spoilt .nil pass0 (pa_cons (pv 1) (pa_cons (pe_call G_u_law_tokens (hr.mono (by omega)) rfl T.m_u_law_tokens T.F_u_law_tokens.kp T.b_u_law_tokens .nil pass0 (pa_cons (pv 3) pa_nil)) pa_nil))) (pg_tup (by rfl) (pgs_cons (pg_name (i := 4) sc_law.nd rfl (Or.inl rfl)) (pgs_cons (pg_name (i := 5) sc_law.nd rfl (Or.inl rfl)) pgs_nil))))
    (pss_cons (ps_if (pt_cmpR op_ne (pe_call G_u_law_told (hr.mono (by omega)) rfl T.m_u_law_told T.F_u_law_told.kp T.b_u_law_told .nil pass0 (pa_cons (pv 4) (pa_cons pe_bl pa_nil))) (pv 5) (nomark _)) (pss_one (ps_ret pe_bl)) pss_nil)
    (pss_cons (ps_set (i := 6) sc_law.nd rfl (Or.inl rfl) (pe_call G_u_law_text (hr.mono (by omega)) rfl T.m_u_law_text T.F_u_law_text.kp T.b_u_law_text .nil pass0 (pa_cons (pv 1) (pa_cons (pe_call G_u_law_tokens (hr.mono (by omega)) rfl T.m_u_law_tokens T.F_u_law_tokens.kp T.b_u_law_tokens .nil pass0 (pa_cons (pe_call G_u_law_term (hr.mono (by omega)) rfl T.m_u_law_term T.F_u_law_term.kp T.b_u_law_term .nil pass0 (pa_cons (pv 1) (pa_cons (pv 2) (pa_cons pe_int (pa_cons pe_int pa_nil))))) pa_nil)) pa_nil))))
    (pss_cons (ps_if (pt_cmpR op_ne (pe_call G_u_law_told (hr.mono (by omega)) rfl T.m_u_law_told T.F_u_law_told.kp T.b_u_law_told .nil pass0 (pa_cons (pv 6) (pa_cons pe_bl pa_nil))) (pe_callB call_len_str (by rfl) T.n_len PySem.boot_len (pa_cons (pv 6) pa_nil)) (nomark _)) (pss_one (ps_ret pe_bl)) pss_nil)
    (pss_cons (ps_if (pt_cmpR op_ne (pe_call G_u_law_told (hr.mono (by omega)) rfl T.m_u_law_told T.F_u_law_told.kp T.b_u_law_told .nil pass0 (pa_cons (pe_op op_add_str (pe_op op_add_str (pv 6) pe_str) (pv 4)) (pa_cons pe_bl pa_nil))) (pe_op op_add (pe_op op_add (pe_callB call_len_str (by rfl) T.n_len PySem.boot_len (pa_cons (pv 6) pa_nil)) pe_int) (pv 5)) (nomark _)) (pss_one (ps_ret pe_bl)) pss_nil)
    (pss_one (ps_ret (pe_cmpR op_eq (pe_call G_u_law_told (hr.mono (by omega)) rfl T.m_u_law_told T.F_u_law_told.kp T.b_u_law_told .nil pass0 (pa_cons (pe_op op_add_str (pe_op op_add_str (pe_op op_add_str (pv 6) pe_str) (pv 6)) pe_str) (pa_cons pe_bl pa_nil))) (pe_callB call_len_str (by rfl) T.n_len PySem.boot_len (pa_cons (pv 6) pa_nil)) (nomark _)))))))))))), ?_⟩
  walk_at "rd"
  refine ⟨a, ns, rfl, hS, h63, fun s l H1 s1 n1 _ st1 => ?_⟩
  walk_at "rd"
  refine ⟨s, l, rfl, st1, fun o fs H2 b2 st2 no op2 => ?_⟩
  have hn := op2.1
  have f5 : fs.length ≤ 5 := by have := op2.2.1; omega
  walk_at "rd"
  refine ⟨s, l, 21, rfl, st2, by decide, by decide, fun m H3 m0 m1 b3 st3 => ?_⟩
  have op3 := op2.but st2 b3
  walk_at "rd"
  refine ⟨s, l, o, fs, m, 3, by omega, rfl, st3, op3, m0, by omega, fun v t H4 b4 st4 ht wt dt zt => ?_⟩
  have zt : t.sz ≤ 40 := by have e : (3 : Nat) ^ (3 + 1) = 81 := rfl; omega
  have dt : t.dep ≤ 4 := dt
  have wt : t.wf fs 20 := wt.mono (by omega)
  have op4 := op3.but st3 b4
  have tlen := tkl_len t
  walk_at "rd"
  refine ⟨v, t, fs, rfl, ht, wt, by omega, by omega, fun tk H5 s5 n5 h5 => ?_⟩
  have st5 := st4.same s5
  have op5 := op4.same s5
  have tks : tk ≠ s := fun z => by obtain ⟨_, _, _, q⟩ := st4.lst; rw [← z, n5] at q; cases q
  walk_at "rd"
  refine ⟨s, l, tk, t, fs, rfl, st5, tks, h5, wt, hn, by omega, fun p z Pc C H6 b6 st6 hp hc ok sep hC hz stp => ?_⟩
  have op6 := op5.but st5 b6
  refine ⟨p, _, rfl, SqT.of hp, rfl, _, _, rfl, _, _, rfl, rfl, ?_⟩
  dsimp only
  walk_at "rd"
  refine ⟨z, Pc, C, t, t, fs, false, rfl, hc, ok, sep, hC, by omega, wt, wt, f5, by omega, by omega, .inl ⟨rfl, stp⟩, fun H7 s7 => ?_⟩
  walk_at "rd"
  show if (!decide (V.int ((lay Pc).length : Int) = V.int ((lay Pc).length : Int))) = true then _ else _
  rw [decide_eq_true rfl]
  show if (!true) = true then _ else _
  rw [if_neg (by decide)]
  dsimp only [tNext]
  have st7 := st6.same s7
  have op7 := op6.same s7
  refine at_state (t := tSeq _ _) (σ' := [some (.ref a), some (.ref s), some (.ref o), some v, some (.str z), some (.int ((lay Pc).length : Int)), none]) rfl ?_
  walk_at "rd"
  refine ⟨s, l, o, fs, 3, 2, by omega, rfl, st7, op7, by decide, by decide, fun v2 u H8 b8 st8 hu' wu du zu => ?_⟩
  have zu : u.sz ≤ 13 := by have e : (3 : Nat) ^ (2 + 1) = 27 := rfl; omega
  have du : u.dep ≤ 3 := du
  have wu : u.wf fs 20 := wu.mono (by omega)
  have ulen := tkl_len u
  walk_at "rd"
  refine ⟨v2, u, fs, rfl, hu', wu, by omega, by omega, fun tk2 H9 s9 n9 h9 => ?_⟩
  have st9 := st8.same s9
  have tks2 : tk2 ≠ s := fun z => by obtain ⟨_, _, _, q⟩ := st8.lst; rw [← z, n9] at q; cases q
  walk_at "rd"
  refine ⟨s, l, tk2, tkl u, rfl, st9, tks2, h9, tkl_ok hn u wu, by omega, fun y PO H10 b10 st10 hcO hPO hlO => ?_⟩
  have okO : Oks PO := fun k hk => tkl_ok hn u wu k (by rw [← hPO]; exact List.mem_filterMap.mpr ⟨_, hk, rfl⟩)
  have sepO : Sep PO := sep_of PO (by rw [hPO]; exact noAdj_tm u)
  have lO : y.length = (lay PO).length := by rw [cods_len, hcO]
  have eq1 : ("=" : Str).length = 1 := by decide +kernel
  have eqc : cods ("=" : Str) = [61] := by decide +kernel
  have eqb : cods ("= " : Str) = [61, 32] := by decide +kernel
  have eqb1 : ("= " : Str).length = 2 := by decide +kernel
  have ok61 : (Tk.sg 61).Ok := by show 61 ∈ [40, 41, 44, 61]; decide
  walk_at "rd"
  refine ⟨y, PO, [], u, u, fs, true, rfl, by rw [List.append_nil]; exact hcO, by rw [List.append_nil]; exact okO, by rw [List.append_nil]; exact sepO, (fun z => nomatch z), by omega, wu, wu, f5, by omega, by omega, .inr ⟨rfl, .inl ⟨hPO, bad_unread.2.2.2.2.1, bad_unread.2.2.2.2.2⟩⟩, fun H11 s11 => ?_⟩
  walk_at "rd"
  refine ⟨Nat.le_trans (show y.length ≤ 10000 by omega) (by decide), ?_⟩
  walk_at "rd"
  show if (!decide (V.int ((lay PO).length : Int) = V.int ((y.length : Nat) : Int))) = true then _ else _
  rw [lO, decide_eq_true rfl]
  show if (!true) = true then _ else _
  rw [if_neg (by decide)]
  dsimp only [tNext]
  walk_at "rd"
  refine ⟨Nat.le_trans (show y.length + ("=" : Str).length ≤ 10000 by omega) (by decide), ?_⟩
  have l1 := len_app y ("=" : Str)
  walk_at "rd"
  refine ⟨Nat.le_trans (show (y ++ ("=" : Str)).length + z.length ≤ 100000 by omega) (by decide), ?_⟩
  have l2 := len_app (y ++ ("=" : Str)) z
  have fP : (PO ++ (some (.sg 61) :: Pc)).filterMap id = tkl u ++ (.sg 61 :: Pc.filterMap id) := by rw [List.filterMap_append, hPO]; rfl
  have la : PO ++ (some (.sg 61) :: Pc) ++ C = PO ++ (some (.sg 61) :: (Pc ++ C)) := by rw [List.append_assoc]; rfl
  have lP : (lay (PO ++ (some (.sg 61) :: Pc))).length = (lay PO).length + 1 + (lay Pc).length := by
    rw [lay_app, List.length_append, lay_len_some]
    show _ + (1 + _) = _
    omega
  walk_at "rd"
  refine ⟨y ++ ("=" : Str) ++ z, PO ++ (some (.sg 61) :: Pc), C, u, t, fs, true, rfl, ?_, ?_, ?_, hC, by omega, wu, wt, f5, by omega, by omega, .inr ⟨rfl, .inr ⟨_, fP, stp⟩⟩, fun H12 s12 => ?_⟩
  · rw [cods_app, cods_app, hcO, hc, eqc, la, lay_app PO, List.append_assoc]; rfl
  · rw [la]
    intro k hk
    rcases List.mem_append.mp hk with m | m
    · exact okO k m
    · rcases List.mem_cons.mp m with m | m
      · cases m; exact ok61
      · exact ok k m
  · rw [la]
    exact sep_app sepO (B := some (.sg 61) :: (Pc ++ C)) ⟨fun z => (nomatch z), sep⟩ (fun b e => by cases e; rfl)
  walk_at "rd"
  refine ⟨Nat.le_trans (show y.length ≤ 10000 by omega) (by decide), ?_⟩
  walk_at "rd"
  show if (!decide (V.int ((lay (PO ++ (some (.sg 61) :: Pc))).length : Int) = V.int ((((y.length : Nat) : Int) + 1) + ((lay Pc).length : Int)))) = true then _ else _
  rw [decide_eq_true (congrArg V.int (show ((lay (PO ++ (some (.sg 61) :: Pc))).length : Int) = (((y.length : Nat) : Int) + 1) + ((lay Pc).length : Int) by rw [lP, lO]; omega))]
  show if (!true) = true then _ else _
  rw [if_neg (by decide)]
  dsimp only [tNext]
  walk_at "rd"
  refine ⟨Nat.le_trans (show y.length + ("= " : Str).length ≤ 10000 by omega) (by decide), ?_⟩
  have l3 := len_app y ("= " : Str)
  walk_at "rd"
  refine ⟨Nat.le_trans (show (y ++ ("= " : Str)).length + y.length ≤ 100000 by omega) (by decide), ?_⟩
  have l4 := len_app (y ++ ("= " : Str)) y
  walk_at "rd"
  refine ⟨Nat.le_trans (show (y ++ ("= " : Str) ++ y).length + ("=" : Str).length ≤ 100000 by omega) (by decide), ?_⟩
  have l5 := len_app (y ++ ("= " : Str) ++ y) ("=" : Str)
  walk_at "rd"
  have k61 : (Tk.sg 61).kd = ("=" : Str) := by decide +kernel
  have n61 : ("=" : Str) ≠ "(" ∧ ("=" : Str) ≠ "end" := by decide +kernel
  refine ⟨y ++ ("= " : Str) ++ y ++ ("=" : Str), PO, some (.sg 61) :: none :: (PO ++ [some (.sg 61)]), u, u, fs, false, rfl, ?_, ?_, ?_, (fun z => nomatch z), by omega, wu, wu, f5, by omega, by omega, .inl ⟨rfl, .inl ⟨hPO, ?_, ?_⟩⟩, fun H13 s13 => ?_⟩
  · rw [cods_app, cods_app, cods_app, hcO, eqc, eqb, lay_app PO]
    show ((lay PO ++ [61, 32]) ++ lay PO) ++ [61] = lay PO ++ (61 :: 32 :: lay (PO ++ [some (.sg 61)]))
    rw [lay_app PO]
    show ((lay PO ++ [61, 32]) ++ lay PO) ++ [61] = lay PO ++ (61 :: 32 :: (lay PO ++ [61]))
    simp
  · intro k hk
    rcases List.mem_append.mp hk with m | m
    · exact okO k m
    · rcases List.mem_cons.mp m with m | m
      · cases m; exact ok61
      · rcases List.mem_cons.mp m with m | m
        · cases m
        · rcases List.mem_append.mp m with m | m
          · exact okO k m
          · cases List.mem_singleton.mp m; exact ok61
  · refine sep_app sepO (B := some (.sg 61) :: none :: (PO ++ [some (.sg 61)])) ⟨fun z => (nomatch z), ?_⟩ (fun b e => by cases e; rfl)
    exact sep_app sepO (B := [some (.sg 61)]) ⟨fun z => (nomatch z), trivial⟩ (fun b e => by cases e; rfl)
  · show (Tk.sg 61).kd ≠ _
    rw [k61]; exact n61.1
  · show (Tk.sg 61).kd ≠ _
    rw [k61]; exact n61.2
  walk_at "rd"
  refine ⟨Nat.le_trans (show y.length ≤ 10000 by omega) (by decide), ?_⟩
  walk_at "rd"
  rw [lO, decide_eq_true rfl]
  exact q _

end
set_option maxHeartbeats 4000000 in
theorem all_mk {l : PySem.W.OpenLaw} {w : World} {K : PySem.W.Frag} {h : Heap} {mg : Str → Option Value} {fa : Addr} (X : K.In h) (G : h.Ns mainGlobals mg) (hfa : mg "law" = some (.ref fa))
    {c_HallError c_Malformed c_TooLarge c_Tokens : Addr}
    {tk_MAX_SIZE tk_MAX_DEPTH tk_MAX_ARITY tk_MAX_NAME tk_LETTERS tk_MAX_VARIABLE tk_WORD_CHARACTERS tk_SIGNS tk_NAME tk_VARIABLE tk_END tk_UNREADABLE : Tok}
    {f0 f1 f2 f3 f4 f5 f6 f7 f8 f9 f10 f11 f12 f13 f14 f15 f16 f17 f18 f19 f20 f21 f22 f23 f24 f25 f26 f27 f28 f29 f30 : Addr} {od0 an0 od1 an1 od2 an2 od3 an3 od4 an4 od5 an5 od6 an6 od7 an7 od8 an8 od9 an9 od10 an10 od11 an11 od12 an12 od13 an13 od14 an14 od15 an15 od16 an16 od17 an17 od18 an18 od19 an19 od20 an20 od21 an21 od22 an22 od23 an23 od24 an24 od25 an25 od26 an26 od27 an27 od28 an28 od29 an29 od30 an30 : Option Addr} {sl0 sl1 sl2 sl3 sl4 sl5 sl6 sl7 sl8 sl9 sl10 sl11 sl12 sl13 sl14 sl15 sl16 sl17 sl18 sl19 sl20 sl21 sl22 sl23 sl24 sl25 sl26 sl27 sl28 sl29 sl30 : Array (Option Value)} {oc0 kV0 dc0 pm0 cd0 ct0 oc1 kV1 dc1 pm1 cd1 ct1 oc2 kV2 dc2 pm2 cd2 ct2 oc3 kV3 dc3 pm3 cd3 ct3 oc4 kV4 dc4 pm4 cd4 ct4 oc5 kV5 dc5 pm5 cd5 ct5 oc6 kV6 dc6 pm6 cd6 ct6 oc7 kV7 dc7 pm7 cd7 ct7 oc8 kV8 dc8 pm8 cd8 ct8 oc9 kV9 dc9 pm9 cd9 ct9 oc10 kV10 dc10 pm10 cd10 ct10 oc11 kV11 dc11 pm11 cd11 ct11 oc12 kV12 dc12 pm12 cd12 ct12 oc13 kV13 dc13 pm13 cd13 ct13 oc14 kV14 dc14 pm14 cd14 ct14 oc15 kV15 dc15 pm15 cd15 ct15 oc16 kV16 dc16 pm16 cd16 ct16 oc17 kV17 dc17 pm17 cd17 ct17 oc18 kV18 dc18 pm18 cd18 ct18 oc19 kV19 dc19 pm19 cd19 ct19 oc20 kV20 dc20 pm20 cd20 ct20 oc21 kV21 dc21 pm21 cd21 ct21 oc22 kV22 dc22 pm22 cd22 ct22 oc23 kV23 dc23 pm23 cd23 ct23 oc24 kV24 dc24 pm24 cd24 ct24 oc25 kV25 dc25 pm25 cd25 ct25 oc26 kV26 dc26 pm26 cd26 ct26 oc27 kV27 dc27 pm27 cd27 ct27 oc28 kV28 dc28 pm28 cd28 ct28 oc29 kV29 dc29 pm29 cd29 ct29 oc30 kV30 dc30 pm30 cd30 ct30 : Value}
    (a0 : PySem.W.nsIn K mainGlobals "_law_state" = some (some (.ref f0))) (l0 : K.lookup f0 = some ⟨oc0, od0, .func (PySem.W.fnOf "_law_state" "_law_state" (defArgs s_u_law_state) (defBody s_u_law_state) (defScope s_u_law_state) .none kV0 dc0 pm0 an0 cd0 ct0), sl0⟩) (e0 : PySem.W.codeIn K cd0 "_law_state" = true) (k0 : PySem.W.keepIn K (.ref f0) = true)
    (a1 : PySem.W.nsIn K mainGlobals "_law_mix" = some (some (.ref f1))) (l1 : K.lookup f1 = some ⟨oc1, od1, .func (PySem.W.fnOf "_law_mix" "_law_mix" (defArgs s_u_law_mix) (defBody s_u_law_mix) (defScope s_u_law_mix) .none kV1 dc1 pm1 an1 cd1 ct1), sl1⟩) (e1 : PySem.W.codeIn K cd1 "_law_mix" = true) (k1 : PySem.W.keepIn K (.ref f1) = true)
    (a2 : PySem.W.nsIn K mainGlobals "_law_number" = some (some (.ref f2))) (l2 : K.lookup f2 = some ⟨oc2, od2, .func (PySem.W.fnOf "_law_number" "_law_number" (defArgs s_u_law_number) (defBody s_u_law_number) (defScope s_u_law_number) .none kV2 dc2 pm2 an2 cd2 ct2), sl2⟩) (e2 : PySem.W.codeIn K cd2 "_law_number" = true) (k2 : PySem.W.keepIn K (.ref f2) = true)
    (a3 : PySem.W.nsIn K mainGlobals "_law_draw" = some (some (.ref f3))) (l3 : K.lookup f3 = some ⟨oc3, od3, .func (PySem.W.fnOf "_law_draw" "_law_draw" (defArgs s_u_law_draw) (defBody s_u_law_draw) (defScope s_u_law_draw) .none kV3 dc3 pm3 an3 cd3 ct3), sl3⟩) (e3 : PySem.W.codeIn K cd3 "_law_draw" = true) (k3 : PySem.W.keepIn K (.ref f3) = true)
    (a4 : PySem.W.nsIn K mainGlobals "_law_word" = some (some (.ref f4))) (l4 : K.lookup f4 = some ⟨oc4, od4, .func (PySem.W.fnOf "_law_word" "_law_word" (defArgs s_u_law_word) (defBody s_u_law_word) (defScope s_u_law_word) .none kV4 dc4 pm4 an4 cd4 ct4), sl4⟩) (e4 : PySem.W.codeIn K cd4 "_law_word" = true) (k4 : PySem.W.keepIn K (.ref f4) = true)
    (a5 : PySem.W.nsIn K mainGlobals "_law_names" = some (some (.ref f5))) (l5 : K.lookup f5 = some ⟨oc5, od5, .func (PySem.W.fnOf "_law_names" "_law_names" (defArgs s_u_law_names) (defBody s_u_law_names) (defScope s_u_law_names) .none kV5 dc5 pm5 an5 cd5 ct5), sl5⟩) (e5 : PySem.W.codeIn K cd5 "_law_names" = true) (k5 : PySem.W.keepIn K (.ref f5) = true)
    (a6 : PySem.W.nsIn K mainGlobals "_law_operations" = some (some (.ref f6))) (l6 : K.lookup f6 = some ⟨oc6, od6, .func (PySem.W.fnOf "_law_operations" "_law_operations" (defArgs s_u_law_operations) (defBody s_u_law_operations) (defScope s_u_law_operations) .none kV6 dc6 pm6 an6 cd6 ct6), sl6⟩) (e6 : PySem.W.codeIn K cd6 "_law_operations" = true) (k6 : PySem.W.keepIn K (.ref f6) = true)
    (a7 : PySem.W.nsIn K mainGlobals "_law_leaf" = some (some (.ref f7))) (l7 : K.lookup f7 = some ⟨oc7, od7, .func (PySem.W.fnOf "_law_leaf" "_law_leaf" (defArgs s_u_law_leaf) (defBody s_u_law_leaf) (defScope s_u_law_leaf) .none kV7 dc7 pm7 an7 cd7 ct7), sl7⟩) (e7 : PySem.W.codeIn K cd7 "_law_leaf" = true) (k7 : PySem.W.keepIn K (.ref f7) = true)
    (a8 : PySem.W.nsIn K mainGlobals "_law_term" = some (some (.ref f8))) (l8 : K.lookup f8 = some ⟨oc8, od8, .func (PySem.W.fnOf "_law_term" "_law_term" (defArgs s_u_law_term) (defBody s_u_law_term) (defScope s_u_law_term) .none kV8 dc8 pm8 an8 cd8 ct8), sl8⟩) (e8 : PySem.W.codeIn K cd8 "_law_term" = true) (k8 : PySem.W.keepIn K (.ref f8) = true)
    (a9 : PySem.W.nsIn K mainGlobals "_law_spaced" = some (some (.ref f9))) (l9 : K.lookup f9 = some ⟨oc9, od9, .func (PySem.W.fnOf "_law_spaced" "_law_spaced" (defArgs s_u_law_spaced) (defBody s_u_law_spaced) (defScope s_u_law_spaced) .none kV9 dc9 pm9 an9 cd9 ct9), sl9⟩) (e9 : PySem.W.codeIn K cd9 "_law_spaced" = true) (k9 : PySem.W.keepIn K (.ref f9) = true)
    (a10 : PySem.W.nsIn K mainGlobals "_law_text" = some (some (.ref f10))) (l10 : K.lookup f10 = some ⟨oc10, od10, .func (PySem.W.fnOf "_law_text" "_law_text" (defArgs s_u_law_text) (defBody s_u_law_text) (defScope s_u_law_text) .none kV10 dc10 pm10 an10 cd10 ct10), sl10⟩) (e10 : PySem.W.codeIn K cd10 "_law_text" = true) (k10 : PySem.W.keepIn K (.ref f10) = true)
    (a11 : PySem.W.nsIn K mainGlobals "_law_bad" = some (some (.ref f11))) (l11 : K.lookup f11 = some ⟨oc11, od11, .func (PySem.W.fnOf "_law_bad" "_law_bad" (defArgs s_u_law_bad) (defBody s_u_law_bad) (defScope s_u_law_bad) .none kV11 dc11 pm11 an11 cd11 ct11), sl11⟩) (e11 : PySem.W.codeIn K cd11 "_law_bad" = true) (k11 : PySem.W.keepIn K (.ref f11) = true)
    (a12 : PySem.W.nsIn K mainGlobals "_law_spoilt" = some (some (.ref f12))) (l12 : K.lookup f12 = some ⟨oc12, od12, .func (PySem.W.fnOf "_law_spoilt" "_law_spoilt" (defArgs s_u_law_spoilt) (defBody s_u_law_spoilt) (defScope s_u_law_spoilt) .none kV12 dc12 pm12 an12 cd12 ct12), sl12⟩) (e12 : PySem.W.codeIn K cd12 "_law_spoilt" = true) (k12 : PySem.W.keepIn K (.ref f12) = true)
    (a13 : PySem.W.nsIn K mainGlobals "_law_tokens" = some (some (.ref f13))) (l13 : K.lookup f13 = some ⟨oc13, od13, .func (PySem.W.fnOf "_law_tokens" "_law_tokens" (defArgs s_u_law_tokens) (defBody s_u_law_tokens) (defScope s_u_law_tokens) .none kV13 dc13 pm13 an13 cd13 ct13), sl13⟩) (e13 : PySem.W.codeIn K cd13 "_law_tokens" = true) (k13 : PySem.W.keepIn K (.ref f13) = true)
    (a14 : PySem.W.findIn K (.ref c_Malformed) "__init__" = some (some (.ref f14))) (t14 : PySem.W.typeIn K (.ref f14) = some (.type "function")) (l14 : K.lookup f14 = some ⟨oc14, od14, .func (PySem.W.fnOf "__init__" "Malformed.__init__" (defArgs s_Malformed___init) (defBody s_Malformed___init) (defScope s_Malformed___init) .none kV14 dc14 pm14 an14 cd14 ct14), sl14⟩) (e14 : PySem.W.codeIn K cd14 "Malformed.__init__" = true) (k14 : PySem.W.keepIn K (.ref f14) = true)
    (a15 : PySem.W.findIn K (.ref c_Tokens) "take" = some (some (.ref f15))) (t15 : PySem.W.typeIn K (.ref f15) = some (.type "function")) (l15 : K.lookup f15 = some ⟨oc15, od15, .func (PySem.W.fnOf "take" "Tokens.take" (defArgs s_Tokens_take) (defBody s_Tokens_take) (defScope s_Tokens_take) .none kV15 dc15 pm15 an15 cd15 ct15), sl15⟩) (e15 : PySem.W.codeIn K cd15 "Tokens.take" = true) (k15 : PySem.W.keepIn K (.ref f15) = true)
    (a16 : PySem.W.findIn K (.ref c_Tokens) "kind" = some (some (.ref f16))) (t16 : PySem.W.typeIn K (.ref f16) = some (.type "function")) (l16 : K.lookup f16 = some ⟨oc16, od16, .func (PySem.W.fnOf "kind" "Tokens.kind" (defArgs s_Tokens_kind) (defBody s_Tokens_kind) (defScope s_Tokens_kind) .none kV16 dc16 pm16 an16 cd16 ct16), sl16⟩) (e16 : PySem.W.codeIn K cd16 "Tokens.kind" = true) (k16 : PySem.W.keepIn K (.ref f16) = true)
    (a17 : PySem.W.nsIn K mainGlobals "_read_part" = some (some (.ref f17))) (l17 : K.lookup f17 = some ⟨oc17, od17, .func (PySem.W.fnOf "_read_part" "_read_part" (defArgs s_u_read_part) (defBody s_u_read_part) (defScope s_u_read_part) .none kV17 dc17 pm17 an17 cd17 ct17), sl17⟩) (e17 : PySem.W.codeIn K cd17 "_read_part" = true) (k17 : PySem.W.keepIn K (.ref f17) = true)
    (a18 : PySem.W.nsIn K mainGlobals "profile" = some (some (.ref f18))) (l18 : K.lookup f18 = some ⟨oc18, od18, .func (PySem.W.fnOf "profile" "profile" (defArgs s_profile) (defBody s_profile) (defScope s_profile) .none kV18 dc18 pm18 an18 cd18 ct18), sl18⟩) (e18 : PySem.W.codeIn K cd18 "profile" = true) (k18 : PySem.W.keepIn K (.ref f18) = true)
    (a19 : PySem.W.nsIn K mainGlobals "measure" = some (some (.ref f19))) (l19 : K.lookup f19 = some ⟨oc19, od19, .func (PySem.W.fnOf "measure" "measure" (defArgs s_measure) (defBody s_measure) (defScope s_measure) .none kV19 dc19 pm19 an19 cd19 ct19), sl19⟩) (e19 : PySem.W.codeIn K cd19 "measure" = true) (k19 : PySem.W.keepIn K (.ref f19) = true)
    (a20 : PySem.W.nsIn K mainGlobals "is_within" = some (some (.ref f20))) (l20 : K.lookup f20 = some ⟨oc20, od20, .func (PySem.W.fnOf "is_within" "is_within" (defArgs s_is_within) (defBody s_is_within) (defScope s_is_within) .none kV20 dc20 pm20 an20 cd20 ct20), sl20⟩) (e20 : PySem.W.codeIn K cd20 "is_within" = true) (k20 : PySem.W.keepIn K (.ref f20) = true)
    (a21 : PySem.W.nsIn K mainGlobals "check_size" = some (some (.ref f21))) (l21 : K.lookup f21 = some ⟨oc21, od21, .func (PySem.W.fnOf "check_size" "check_size" (defArgs s_check_size) (defBody s_check_size) (defScope s_check_size) .none kV21 dc21 pm21 an21 cd21 ct21), sl21⟩) (e21 : PySem.W.codeIn K cd21 "check_size" = true) (k21 : PySem.W.keepIn K (.ref f21) = true)
    (a22 : PySem.W.nsIn K mainGlobals "is_name" = some (some (.ref f22))) (l22 : K.lookup f22 = some ⟨oc22, od22, .func (PySem.W.fnOf "is_name" "is_name" (defArgs s_is_name) (defBody s_is_name) (defScope s_is_name) .none kV22 dc22 pm22 an22 cd22 ct22), sl22⟩) (e22 : PySem.W.codeIn K cd22 "is_name" = true) (k22 : PySem.W.keepIn K (.ref f22) = true)
    (a23 : PySem.W.nsIn K mainGlobals "_kind_of_word" = some (some (.ref f23))) (l23 : K.lookup f23 = some ⟨oc23, od23, .func (PySem.W.fnOf "_kind_of_word" "_kind_of_word" (defArgs s_u_kind_of_word) (defBody s_u_kind_of_word) (defScope s_u_kind_of_word) .none kV23 dc23 pm23 an23 cd23 ct23), sl23⟩) (e23 : PySem.W.codeIn K cd23 "_kind_of_word" = true) (k23 : PySem.W.keepIn K (.ref f23) = true)
    (a24 : PySem.W.nsIn K mainGlobals "_split" = some (some (.ref f24))) (l24 : K.lookup f24 = some ⟨oc24, od24, .func (PySem.W.fnOf "_split" "_split" (defArgs s_u_split) (defBody s_u_split) (defScope s_u_split) .none kV24 dc24 pm24 an24 cd24 ct24), sl24⟩) (e24 : PySem.W.codeIn K cd24 "_split" = true) (k24 : PySem.W.keepIn K (.ref f24) = true)
    (a25 : PySem.W.findIn K (.ref c_Tokens) "__init__" = some (some (.ref f25))) (t25 : PySem.W.typeIn K (.ref f25) = some (.type "function")) (l25 : K.lookup f25 = some ⟨oc25, od25, .func (PySem.W.fnOf "__init__" "Tokens.__init__" (defArgs s_Tokens___init) (defBody s_Tokens___init) (defScope s_Tokens___init) .none kV25 dc25 pm25 an25 cd25 ct25), sl25⟩) (e25 : PySem.W.codeIn K cd25 "Tokens.__init__" = true) (k25 : PySem.W.keepIn K (.ref f25) = true)
    (a26 : PySem.W.nsIn K mainGlobals "read_equation" = some (some (.ref f26))) (l26 : K.lookup f26 = some ⟨oc26, od26, .func (PySem.W.fnOf "read_equation" "read_equation" (defArgs s_read_equation) (defBody s_read_equation) (defScope s_read_equation) .none kV26 dc26 pm26 an26 cd26 ct26), sl26⟩) (e26 : PySem.W.codeIn K cd26 "read_equation" = true) (k26 : PySem.W.keepIn K (.ref f26) = true)
    (a27 : PySem.W.nsIn K mainGlobals "read_term" = some (some (.ref f27))) (l27 : K.lookup f27 = some ⟨oc27, od27, .func (PySem.W.fnOf "read_term" "read_term" (defArgs s_read_term) (defBody s_read_term) (defScope s_read_term) .none kV27 dc27 pm27 an27 cd27 ct27), sl27⟩) (e27 : PySem.W.codeIn K cd27 "read_term" = true) (k27 : PySem.W.keepIn K (.ref f27) = true)
    (a28 : PySem.W.nsIn K mainGlobals "_law_is_integer" = some (some (.ref f28))) (l28 : K.lookup f28 = some ⟨oc28, od28, .func (PySem.W.fnOf "_law_is_integer" "_law_is_integer" (defArgs s_u_law_is_integer) (defBody s_u_law_is_integer) (defScope s_u_law_is_integer) .none kV28 dc28 pm28 an28 cd28 ct28), sl28⟩) (e28 : PySem.W.codeIn K cd28 "_law_is_integer" = true) (k28 : PySem.W.keepIn K (.ref f28) = true)
    (a29 : PySem.W.nsIn K mainGlobals "_law_told" = some (some (.ref f29))) (l29 : K.lookup f29 = some ⟨oc29, od29, .func (PySem.W.fnOf "_law_told" "_law_told" (defArgs s_u_law_told) (defBody s_u_law_told) (defScope s_u_law_told) .none kV29 dc29 pm29 an29 cd29 ct29), sl29⟩) (e29 : PySem.W.codeIn K cd29 "_law_told" = true) (k29 : PySem.W.keepIn K (.ref f29) = true)
    (a30 : PySem.W.nsIn K mainGlobals "law" = some (some (.ref f30))) (l30 : K.lookup f30 = some ⟨oc30, od30, .func (PySem.W.fnOf "law" "law" (defArgs s_law) (defBody s_law) (defScope s_law) .none kV30 dc30 pm30 an30 cd30 ct30), sl30⟩) (e30 : PySem.W.codeIn K cd30 "law" = true) (k30 : PySem.W.keepIn K (.ref f30) = true)
    (z_ValueError : PySem.W.nsIn K mainGlobals "ValueError" = some none)
    (z_all : PySem.W.nsIn K mainGlobals "all" = some none)
    (z_bool : PySem.W.nsIn K mainGlobals "bool" = some none)
    (z_int : PySem.W.nsIn K mainGlobals "int" = some none)
    (z_isinstance : PySem.W.nsIn K mainGlobals "isinstance" = some none)
    (z_len : PySem.W.nsIn K mainGlobals "len" = some none)
    (z_list : PySem.W.nsIn K mainGlobals "list" = some none)
    (z_range : PySem.W.nsIn K mainGlobals "range" = some none)
    (z_str : PySem.W.nsIn K mainGlobals "str" = some none)
    (z_tuple : PySem.W.nsIn K mainGlobals "tuple" = some none)
    (zc_MAX_SIZE : PySem.W.nsIn K mainGlobals "MAX_SIZE" = some (some (.int 400 tk_MAX_SIZE)))
    (zc_MAX_DEPTH : PySem.W.nsIn K mainGlobals "MAX_DEPTH" = some (some (.int 30 tk_MAX_DEPTH)))
    (zc_MAX_ARITY : PySem.W.nsIn K mainGlobals "MAX_ARITY" = some (some (.int 3 tk_MAX_ARITY)))
    (zc_MAX_NAME : PySem.W.nsIn K mainGlobals "MAX_NAME" = some (some (.int 8 tk_MAX_NAME)))
    (zc_LETTERS : PySem.W.nsIn K mainGlobals "LETTERS" = some (some (.str "abcdefghijklmnopqrstuvwxyz" tk_LETTERS)))
    (zc_MAX_VARIABLE : PySem.W.nsIn K mainGlobals "MAX_VARIABLE" = some (some (.int 19 tk_MAX_VARIABLE)))
    (zc_WORD_CHARACTERS : PySem.W.nsIn K mainGlobals "WORD_CHARACTERS" = some (some (.str "abcdefghijklmnopqrstuvwxyzABCDEFGHIJKLMNOPQRSTUVWXYZ0123456789" tk_WORD_CHARACTERS)))
    (zc_SIGNS : PySem.W.nsIn K mainGlobals "SIGNS" = some (some (.str "(),=" tk_SIGNS)))
    (zc_NAME : PySem.W.nsIn K mainGlobals "NAME" = some (some (.str "name" tk_NAME)))
    (zc_VARIABLE : PySem.W.nsIn K mainGlobals "VARIABLE" = some (some (.str "variable" tk_VARIABLE)))
    (zc_END : PySem.W.nsIn K mainGlobals "END" = some (some (.str "end" tk_END)))
    (zc_UNREADABLE : PySem.W.nsIn K mainGlobals "UNREADABLE" = some (some (.str "unreadable" tk_UNREADABLE)))
    (xa_HallError : PySem.W.nsIn K mainGlobals "HallError" = some (some (.ref c_HallError)))
    (xk_HallError : PySem.W.keepIn K (.ref c_HallError) = true)
    (xe_HallError : PySem.W.excIn K c_HallError [.type "ValueError", .type "Exception", .type "BaseException", .type "object"] "ValueError.__new__" = true)
    (xb_HallError : PySem.W.subIn K (.ref c_HallError) (.type "BaseException") = some true)
    (xt_HallError : PySem.W.typeIn K (.ref c_HallError) = some (.type "type"))
    (xs_HallError : PySem.W.subIn K (.ref c_HallError) (.ref c_HallError) = some true)
    (xhg_HallError : PySem.W.findIn K (.ref c_HallError) "__getattribute__" = some (some (.builtin "BaseException.__getattribute__")))
    (xhk_HallError : PySem.W.findIn K (.ref c_HallError) "__getattr__" = some none)
    (xhd_HallError : PySem.W.hasDictIn K c_HallError = true)
    (xha_HallError : PySem.W.findIn K (.ref c_HallError) "__class__" = some (some (.builtin "object.__class__")))
    (xhn_HallError : PySem.W.specialIn K (.builtin "object.__class__") "__get__" = some (some (.builtin "getset_descriptor.__get__")))
    (xht_HallError : PySem.W.takesIn K (.builtin "object.__class__") = some true)
    (xhm_HallError : PySem.W.mroIn K c_HallError (.type "object") = some true)
    (xo_Malformed : K.lookup c_Malformed = some (excClassObj nm_Malformed q_Malformed c_Malformed N_Malformed bs_Malformed bm_Malformed true sn_Malformed sub_Malformed ab_Malformed col_Malformed dd_Malformed k0_Malformed k1_Malformed k2_Malformed k3_Malformed k5_Malformed "ValueError.__new__")) (xr_Malformed : PySem.HandSPX.refsVE bm_Malformed = true) (xsa_Malformed : PySem.W.findIn K (.ref c_Malformed) "__setattr__" = some (some (.builtin "object.__setattr__")))
    (xa_Malformed : PySem.W.nsIn K mainGlobals "Malformed" = some (some (.ref c_Malformed)))
    (xk_Malformed : PySem.W.keepIn K (.ref c_Malformed) = true)
    (xb_Malformed : PySem.W.subIn K (.ref c_Malformed) (.type "BaseException") = some true)
    (xt_Malformed : PySem.W.typeIn K (.ref c_Malformed) = some (.type "type"))
    (xs_Malformed : PySem.W.subIn K (.ref c_Malformed) (.ref c_Malformed) = some true)
    (xhg_Malformed : PySem.W.findIn K (.ref c_Malformed) "__getattribute__" = some (some (.builtin "BaseException.__getattribute__")))
    (xhk_Malformed : PySem.W.findIn K (.ref c_Malformed) "__getattr__" = some none)
    (xhd_Malformed : PySem.W.hasDictIn K c_Malformed = true)
    (xha_Malformed : PySem.W.findIn K (.ref c_Malformed) "__class__" = some (some (.builtin "object.__class__")))
    (xhn_Malformed : PySem.W.specialIn K (.builtin "object.__class__") "__get__" = some (some (.builtin "getset_descriptor.__get__")))
    (xht_Malformed : PySem.W.takesIn K (.builtin "object.__class__") = some true)
    (xhm_Malformed : PySem.W.mroIn K c_Malformed (.type "object") = some true)
    (xa_TooLarge : PySem.W.nsIn K mainGlobals "TooLarge" = some (some (.ref c_TooLarge)))
    (xk_TooLarge : PySem.W.keepIn K (.ref c_TooLarge) = true)
    (xe_TooLarge : PySem.W.excIn K c_TooLarge [.type "ValueError", .type "Exception", .type "BaseException", .type "object"] "ValueError.__new__" = true)
    (xb_TooLarge : PySem.W.subIn K (.ref c_TooLarge) (.type "BaseException") = some true)
    (xt_TooLarge : PySem.W.typeIn K (.ref c_TooLarge) = some (.type "type"))
    (xs_TooLarge : PySem.W.subIn K (.ref c_TooLarge) (.ref c_TooLarge) = some true)
    (xhg_TooLarge : PySem.W.findIn K (.ref c_TooLarge) "__getattribute__" = some (some (.builtin "BaseException.__getattribute__")))
    (xhk_TooLarge : PySem.W.findIn K (.ref c_TooLarge) "__getattr__" = some none)
    (xhd_TooLarge : PySem.W.hasDictIn K c_TooLarge = true)
    (xha_TooLarge : PySem.W.findIn K (.ref c_TooLarge) "__class__" = some (some (.builtin "object.__class__")))
    (xhn_TooLarge : PySem.W.specialIn K (.builtin "object.__class__") "__get__" = some (some (.builtin "getset_descriptor.__get__")))
    (xht_TooLarge : PySem.W.takesIn K (.builtin "object.__class__") = some true)
    (xhm_TooLarge : PySem.W.mroIn K c_TooLarge (.type "object") = some true)
    (xa_Tokens : PySem.W.nsIn K mainGlobals "Tokens" = some (some (.ref c_Tokens)))
    (xpg_Tokens : PySem.W.plainGet K c_Tokens Str.empty = true)
    (xhd_Tokens : PySem.W.hasDictIn K c_Tokens = true)
    (xpo_Tokens : PySem.W.plainOver K c_Tokens = true)
    (xsa_Tokens : PySem.W.findIn K (.ref c_Tokens) "__setattr__" = some (some (.builtin "object.__setattr__")))
    (xmk_Tokens : PySem.W.makesIn K c_Tokens = true)
    (xkc_Tokens : PySem.W.keepIn K (.ref c_Tokens) = true)
    (xN_Tokens__rows : PySem.W.findIn K (.ref c_Tokens) "_rows" = some none)
    (xN_Tokens__at : PySem.W.findIn K (.ref c_Tokens) "_at" = some none)
    (i15 : PySem.W.isFn K (.ref f15) = true)
    (i16 : PySem.W.isFn K (.ref f16) = true)
    (i25 : PySem.W.isFn K (.ref f25) = true)
    (ff_nf_index : PySem.W.findIn K (.ref c_Malformed) "index" = some none)
    (ff_kit_Malformed_HallError : PySem.W.kitOne K (.ref c_Malformed) (.ref c_HallError) = some true)
    (ff_kit_Malformed_ValueError : PySem.W.kitOne K (.ref c_Malformed) (.type "ValueError") = some true)
    : ∃ fd : FuncData, (∀ (s : Shared) (v : Value), BindsTo s fd ⟨[v], []⟩ [("script", v)]) ∧ ∀ base : Heap, K.In base → base.Ns mainGlobals mg → FnOk l.prog w K mg base CX0 80 fa fd ["script"] (sp_law K) := by
  have e := hfa.symm.trans (PySem.W.mg_of X G a30)
  cases e
  have F0 := fun_mk (st := s_u_law_state) l0 e0 k0
  have b0 := F0.binds (ps := ["script"]) fun _ _ _ _ _ _ us hl => match us, hl with | [_], _ => rfl
  have F1 := fun_mk (st := s_u_law_mix) l1 e1 k1
  have b1 := F1.binds (ps := ["cell"]) fun _ _ _ _ _ _ us hl => match us, hl with | [_], _ => rfl
  have F2 := fun_mk (st := s_u_law_number) l2 e2 k2
  have b2 := F2.binds (ps := ["cell"]) fun _ _ _ _ _ _ us hl => match us, hl with | [_], _ => rfl
  have F3 := fun_mk (st := s_u_law_draw) l3 e3 k3
  have b3 := F3.binds (ps := ["state", "many"]) fun _ _ _ _ _ _ us hl => match us, hl with | [_, _], _ => rfl
  have F4 := fun_mk (st := s_u_law_word) l4 e4 k4
  have b4 := F4.binds (ps := ["state", "many"]) fun _ _ _ _ _ _ us hl => match us, hl with | [_, _], _ => rfl
  have F5 := fun_mk (st := s_u_law_names) l5 e5 k5
  have b5 := F5.binds (ps := ["state", "count"]) fun _ _ _ _ _ _ us hl => match us, hl with | [_, _], _ => rfl
  have F6 := fun_mk (st := s_u_law_operations) l6 e6 k6
  have b6 := F6.binds (ps := ["state"]) fun _ _ _ _ _ _ us hl => match us, hl with | [_], _ => rfl
  have F7 := fun_mk (st := s_u_law_leaf) l7 e7 k7
  have b7 := F7.binds (ps := ["state", "operations", "count"]) fun _ _ _ _ _ _ us hl => match us, hl with | [_, _, _], _ => rfl
  have F8 := fun_mk (st := s_u_law_term) l8 e8 k8
  have b8 := F8.binds (ps := ["state", "operations", "count", "height"]) fun _ _ _ _ _ _ us hl => match us, hl with | [_, _, _, _], _ => rfl
  have F9 := fun_mk (st := s_u_law_spaced) l9 e9 k9
  have b9 := F9.binds (ps := ["state", "tokens"]) fun _ _ _ _ _ _ us hl => match us, hl with | [_, _], _ => rfl
  have F10 := fun_mk (st := s_u_law_text) l10 e10 k10
  have b10 := F10.binds (ps := ["state", "tokens"]) fun _ _ _ _ _ _ us hl => match us, hl with | [_, _], _ => rfl
  have F11 := fun_mk (st := s_u_law_bad) l11 e11 k11
  have b11 := F11.binds (ps := ["state"]) fun _ _ _ _ _ _ us hl => match us, hl with | [_], _ => rfl
  have F12 := fun_mk (st := s_u_law_spoilt) l12 e12 k12
  have b12 := F12.binds (ps := ["state", "tokens"]) fun _ _ _ _ _ _ us hl => match us, hl with | [_, _], _ => rfl
  have F13 := fun_mk (st := s_u_law_tokens) l13 e13 k13
  have b13 := F13.binds (ps := ["term"]) fun _ _ _ _ _ _ us hl => match us, hl with | [_], _ => rfl
  have F14 := fun_mk (st := s_Malformed___init) l14 e14 k14
  have b14 := F14.binds (ps := ["self", "index"]) fun _ _ _ _ _ _ us hl => match us, hl with | [_, _], _ => rfl
  have F15 := fun_mk (st := s_Tokens_take) l15 e15 k15
  have b15 := F15.binds (ps := ["self", "kinds"]) fun _ _ _ _ _ _ us hl => match us, hl with | [_, _], _ => rfl
  have F16 := fun_mk (st := s_Tokens_kind) l16 e16 k16
  have b16 := F16.binds (ps := ["self"]) fun _ _ _ _ _ _ us hl => match us, hl with | [_], _ => rfl
  have F17 := fun_mk (st := s_u_read_part) l17 e17 k17
  have b17 := F17.binds (ps := ["tokens"]) fun _ _ _ _ _ _ us hl => match us, hl with | [_], _ => rfl
  have F18 := fun_mk (st := s_profile) l18 e18 k18
  have b18 := F18.binds (ps := ["term"]) fun _ _ _ _ _ _ us hl => match us, hl with | [_], _ => rfl
  have F19 := fun_mk (st := s_measure) l19 e19 k19
  have b19 := F19.binds (ps := ["term"]) fun _ _ _ _ _ _ us hl => match us, hl with | [_], _ => rfl
  have F20 := fun_mk (st := s_is_within) l20 e20 k20
  have b20 := F20.binds (ps := ["total", "deepest"]) fun _ _ _ _ _ _ us hl => match us, hl with | [_, _], _ => rfl
  have F21 := fun_mk (st := s_check_size) l21 e21 k21
  have b21 := F21.binds (ps := ["term"]) fun _ _ _ _ _ _ us hl => match us, hl with | [_], _ => rfl
  have F22 := fun_mk (st := s_is_name) l22 e22 k22
  have b22 := F22.binds (ps := ["text"]) fun _ _ _ _ _ _ us hl => match us, hl with | [_], _ => rfl
  have F23 := fun_mk (st := s_u_kind_of_word) l23 e23 k23
  have b23 := F23.binds (ps := ["word"]) fun _ _ _ _ _ _ us hl => match us, hl with | [_], _ => rfl
  have F24 := fun_mk (st := s_u_split) l24 e24 k24
  have b24 := F24.binds (ps := ["text"]) fun _ _ _ _ _ _ us hl => match us, hl with | [_], _ => rfl
  have F25 := fun_mk (st := s_Tokens___init) l25 e25 k25
  have b25 := F25.binds (ps := ["self", "text"]) fun _ _ _ _ _ _ us hl => match us, hl with | [_, _], _ => rfl
  have F26 := fun_mk (st := s_read_equation) l26 e26 k26
  have b26 := F26.binds (ps := ["text"]) fun _ _ _ _ _ _ us hl => match us, hl with | [_], _ => rfl
  have F27 := fun_mk (st := s_read_term) l27 e27 k27
  have b27 := F27.binds (ps := ["text"]) fun _ _ _ _ _ _ us hl => match us, hl with | [_], _ => rfl
  have F28 := fun_mk (st := s_u_law_is_integer) l28 e28 k28
  have b28 := F28.binds (ps := ["actual"]) fun _ _ _ _ _ _ us hl => match us, hl with | [_], _ => rfl
  have F29 := fun_mk (st := s_u_law_told) l29 e29 k29
  have b29 := F29.binds (ps := ["text", "is_equation"]) fun _ _ _ _ _ _ us hl => match us, hl with | [_, _], _ => rfl
  have F30 := fun_mk (st := s_law) l30 e30 k30
  have b30 := F30.binds (ps := ["script"]) fun _ _ _ _ _ _ us hl => match us, hl with | [_], _ => rfl
  have T : Tx K mg ⟨f0, _, f1, _, f2, _, f3, _, f4, _, f5, _, f6, _, f7, _, f8, _, f9, _, f10, _, f11, _, f12, _, f13, _, f14, _, f15, _, f16, _, f17, _, f18, _, f19, _, f20, _, f21, _, f22, _, f23, _, f24, _, f25, _, f26, _, f27, _, f28, _, f29, _, fa, _, c_HallError, c_Malformed, c_TooLarge, c_Tokens⟩ := ⟨F0, b0, PySem.W.mg_of X G a0, F1, b1, PySem.W.mg_of X G a1, F2, b2, PySem.W.mg_of X G a2, F3, b3, PySem.W.mg_of X G a3, F4, b4, PySem.W.mg_of X G a4, F5, b5, PySem.W.mg_of X G a5, F6, b6, PySem.W.mg_of X G a6, F7, b7, PySem.W.mg_of X G a7, F8, b8, PySem.W.mg_of X G a8, F9, b9, PySem.W.mg_of X G a9, F10, b10, PySem.W.mg_of X G a10, F11, b11, PySem.W.mg_of X G a11, F12, b12, PySem.W.mg_of X G a12, F13, b13, PySem.W.mg_of X G a13, F14, b14, F15, b15, F16, b16, F17, b17, PySem.W.mg_of X G a17, F18, b18, PySem.W.mg_of X G a18, F19, b19, PySem.W.mg_of X G a19, F20, b20, PySem.W.mg_of X G a20, F21, b21, PySem.W.mg_of X G a21, F22, b22, PySem.W.mg_of X G a22, F23, b23, PySem.W.mg_of X G a23, F24, b24, PySem.W.mg_of X G a24, F25, b25, F26, b26, PySem.W.mg_of X G a26, F27, b27, PySem.W.mg_of X G a27, F28, b28, PySem.W.mg_of X G a28, F29, b29, PySem.W.mg_of X G a29, F30, b30, PySem.W.mg_of X G a30, PySem.W.mg_none_of X G z_ValueError, PySem.W.mg_none_of X G z_all, PySem.W.mg_none_of X G z_bool, PySem.W.mg_none_of X G z_int, PySem.W.mg_none_of X G z_isinstance, PySem.W.mg_none_of X G z_len, PySem.W.mg_none_of X G z_list, PySem.W.mg_none_of X G z_range, PySem.W.mg_none_of X G z_str, PySem.W.mg_none_of X G z_tuple, ⟨tk_MAX_SIZE, PySem.W.mg_of X G zc_MAX_SIZE⟩, ⟨tk_MAX_DEPTH, PySem.W.mg_of X G zc_MAX_DEPTH⟩, ⟨tk_MAX_ARITY, PySem.W.mg_of X G zc_MAX_ARITY⟩, ⟨tk_MAX_NAME, PySem.W.mg_of X G zc_MAX_NAME⟩, ⟨tk_LETTERS, PySem.W.mg_of X G zc_LETTERS⟩, ⟨tk_MAX_VARIABLE, PySem.W.mg_of X G zc_MAX_VARIABLE⟩, ⟨tk_WORD_CHARACTERS, PySem.W.mg_of X G zc_WORD_CHARACTERS⟩, ⟨tk_SIGNS, PySem.W.mg_of X G zc_SIGNS⟩, ⟨tk_NAME, PySem.W.mg_of X G zc_NAME⟩, ⟨tk_VARIABLE, PySem.W.mg_of X G zc_VARIABLE⟩, ⟨tk_END, PySem.W.mg_of X G zc_END⟩, ⟨tk_UNREADABLE, PySem.W.mg_of X G zc_UNREADABLE⟩, err_mk X G xa_HallError xk_HallError xe_HallError xb_HallError xt_HallError xs_HallError xhg_HallError xhk_HallError xhd_HallError xha_HallError xhn_HallError xht_HallError xhm_HallError, erri_mk X G xa_Malformed xk_Malformed ⟨_, _, _, _, _, _, _, _, _, _, _, _, _, _, _, xo_Malformed, xr_Malformed⟩ xsa_Malformed xb_Malformed xt_Malformed xs_Malformed xhg_Malformed xhk_Malformed xhd_Malformed xha_Malformed xhn_Malformed xht_Malformed xhm_Malformed a14 t14, err_mk X G xa_TooLarge xk_TooLarge xe_TooLarge xb_TooLarge xt_TooLarge xs_TooLarge xhg_TooLarge xhk_TooLarge xhd_TooLarge xha_TooLarge xhn_TooLarge xht_TooLarge xhm_TooLarge, ⟨xpg_Tokens, xhd_Tokens, xpo_Tokens, xsa_Tokens⟩, ⟨xmk_Tokens, a25, i25, xkc_Tokens⟩, PySem.W.mg_of X G xa_Tokens, xN_Tokens__rows, xN_Tokens__at, ⟨a15, i15, k15⟩, ⟨a16, i16, k16⟩, ff_nf_index, ff_kit_Malformed_HallError, ff_kit_Malformed_ValueError⟩
  refine ⟨PySem.W.fnOf "law" "law" (defArgs s_law) (defBody s_law) (defScope s_law) .none kV30 dc30 pm30 an30 cd30 ct30, fun s v => .of_eq rfl, fun base _ _ => ?_⟩
  exact ok_law (P := l.prog) (w := w) (base := base) T
theorem walk {l : PySem.W.OpenLaw} {q : Program} {loose : List Str} {XP : (Str → Option Value) → Heap → Prop} {YP : World → Heap → Prop} {d : DefRec} {K : Params → PySem.W.Frag} (hn : l.most = some 63) (hdf : d.params.defaults = [])
    (hY : ∀ (w : World) (h : Heap), YP w h → (K w.params).In h)
    (F : ∀ (w : World) (mg : Str → Option Value) (fa : Addr) (h : Heap), (K w.params).In h → h.Ns mainGlobals mg → mg d.name = some (.ref fa) →
      ∃ fd : FuncData, (∀ (s : Shared) (u : Value), BindsTo s fd ⟨[u], []⟩ [("script", u)]) ∧ ∀ base : Heap, (K w.params).In base → base.Ns mainGlobals mg → FnOk l.prog w (K w.params) mg base CX0 80 fa fd ["script"] (sp_law (K w.params))) :
    PySem.W.WalkO q loose XP YP l.row.toRowW d [] (fun f vs => PySem.call f vs) :=
  L2.walk_of (n := 63) (k := 80) (x := "script") (CX := fun _ => CX0) (sp := fun w => sp_law (K w.params)) hn (by decide) hdf ⟨rfl, by decide, by decide⟩ hY F (fun _ _ a ns hl _ hS => ⟨a, ns, rfl, hS, hl, fun _ => rfl⟩) fun _ _ _ _ _ z => z
end Lw
open PySem PySem.W PyProof.Rows
set_option maxRecDepth 100000 in
set_option maxHeartbeats 0 in
theorem PySem.Challenge.cw_joinedends_k12_malformed_texts_holds : PySem.Challenge.rw_joinedends_k12_malformed_texts.Holds := by
  w_on; o_law; k_head; (case hw => w_witness2)
  k_fill
  refine Lw.walk (l := PySem.Challenge.rw_joinedends_k12_malformed_texts) rfl rfl (fun w h Y => PySem.W.kIn_of Y) ?F
  case F =>
    intro w mg fa h KX G hmg
    refine' Lw.all_mk KX G hmg ?a0 ?l0 ?e0 ?k0 ?a1 ?l1 ?e1 ?k1 ?a2 ?l2 ?e2 ?k2 ?a3 ?l3 ?e3 ?k3 ?a4 ?l4 ?e4 ?k4 ?a5 ?l5 ?e5 ?k5 ?a6 ?l6 ?e6 ?k6 ?a7 ?l7 ?e7 ?k7 ?a8 ?l8 ?e8 ?k8 ?a9 ?l9 ?e9 ?k9 ?a10 ?l10 ?e10 ?k10 ?a11 ?l11 ?e11 ?k11 ?a12 ?l12 ?e12 ?k12 ?a13 ?l13 ?e13 ?k13 ?a14 ?t14 ?l14 ?e14 ?k14 ?a15 ?t15 ?l15 ?e15 ?k15 ?a16 ?t16 ?l16 ?e16 ?k16 ?a17 ?l17 ?e17 ?k17 ?a18 ?l18 ?e18 ?k18 ?a19 ?l19 ?e19 ?k19 ?a20 ?l20 ?e20 ?k20 ?a21 ?l21 ?e21 ?k21 ?a22 ?l22 ?e22 ?k22 ?a23 ?l23 ?e23 ?k23 ?a24 ?l24 ?e24 ?k24 ?a25 ?t25 ?l25 ?e25 ?k25 ?a26 ?l26 ?e26 ?k26 ?a27 ?l27 ?e27 ?k27 ?a28 ?l28 ?e28 ?k28 ?a29 ?l29 ?e29 ?k29 ?a30 ?l30 ?e30 ?k30 ?z_ValueError ?z_all ?z_bool ?z_int ?z_isinstance ?z_len ?z_list ?z_range ?z_str ?z_tuple ?zc_MAX_SIZE ?zc_MAX_DEPTH ?zc_MAX_ARITY ?zc_MAX_NAME ?zc_LETTERS ?zc_MAX_VARIABLE ?zc_WORD_CHARACTERS ?zc_SIGNS ?zc_NAME ?zc_VARIABLE ?zc_END ?zc_UNREADABLE ?xa_HallError ?xk_HallError ?xe_HallError ?xb_HallError ?xt_HallError ?xs_HallError ?xhg_HallError ?xhk_HallError ?xhd_HallError ?xha_HallError ?xhn_HallError ?xht_HallError ?xhm_HallError ?xo_Malformed ?xr_Malformed ?xsa_Malformed ?xa_Malformed ?xk_Malformed ?xb_Malformed ?xt_Malformed ?xs_Malformed ?xhg_Malformed ?xhk_Malformed ?xhd_Malformed ?xha_Malformed ?xhn_Malformed ?xht_Malformed ?xhm_Malformed ?xa_TooLarge ?xk_TooLarge ?xe_TooLarge ?xb_TooLarge ?xt_TooLarge ?xs_TooLarge ?xhg_TooLarge ?xhk_TooLarge ?xhd_TooLarge ?xha_TooLarge ?xhn_TooLarge ?xht_TooLarge ?xhm_TooLarge ?xa_Tokens ?xpg_Tokens ?xhd_Tokens ?xpo_Tokens ?xsa_Tokens ?xmk_Tokens ?xkc_Tokens ?xN_Tokens__rows ?xN_Tokens__at ?i15 ?i16 ?i25 ?ff_nf_index ?ff_kit_Malformed_HallError ?ff_kit_Malformed_ValueError
    (case xa_HallError => k_is)
    (case xa_Malformed => k_is)
    (case xa_TooLarge => k_is)
    (case xa_Tokens => k_is)
    (case a0 => k_is)
    (case l0 => k_is)
    (case e0 => k_is)
    (case k0 => k_is)
    (case a1 => k_is)
    (case l1 => k_is)
    (case e1 => k_is)
    (case k1 => k_is)
    (case a2 => k_is)
    (case l2 => k_is)
    (case e2 => k_is)
    (case k2 => k_is)
    (case a3 => k_is)
    (case l3 => k_is)
    (case e3 => k_is)
    (case k3 => k_is)
    (case a4 => k_is)
    (case l4 => k_is)
    (case e4 => k_is)
    (case k4 => k_is)
    (case a5 => k_is)
    (case l5 => k_is)
    (case e5 => k_is)
    (case k5 => k_is)
    (case a6 => k_is)
    (case l6 => k_is)
    (case e6 => k_is)
    (case k6 => k_is)
    (case a7 => k_is)
    (case l7 => k_is)
    (case e7 => k_is)
    (case k7 => k_is)
    (case a8 => k_is)
    (case l8 => k_is)
    (case e8 => k_is)
    (case k8 => k_is)
    (case a9 => k_is)
    (case l9 => k_is)
    (case e9 => k_is)
    (case k9 => k_is)
    (case a10 => k_is)
    (case l10 => k_is)
    (case e10 => k_is)
    (case k10 => k_is)
    (case a11 => k_is)
    (case l11 => k_is)
    (case e11 => k_is)
    (case k11 => k_is)
    (case a12 => k_is)
    (case l12 => k_is)
    (case e12 => k_is)
    (case k12 => k_is)
    (case a13 => k_is)
    (case l13 => k_is)
    (case e13 => k_is)
    (case k13 => k_is)
    (case a14 => k_is)
    (case t14 => k_is)
    (case l14 => k_is)
    (case e14 => k_is)
    (case k14 => k_is)
    (case a15 => k_is)
    (case t15 => k_is)
    (case l15 => k_is)
    (case e15 => k_is)
    (case k15 => k_is)
    (case a16 => k_is)
    (case t16 => k_is)
    (case l16 => k_is)
    (case e16 => k_is)
    (case k16 => k_is)
    (case a17 => k_is)
    (case l17 => k_is)
    (case e17 => k_is)
    (case k17 => k_is)
    (case a18 => k_is)
    (case l18 => k_is)
    (case e18 => k_is)
    (case k18 => k_is)
    (case a19 => k_is)
    (case l19 => k_is)
    (case e19 => k_is)
    (case k19 => k_is)
    (case a20 => k_is)
    (case l20 => k_is)
    (case e20 => k_is)
    (case k20 => k_is)
    (case a21 => k_is)
    (case l21 => k_is)
    (case e21 => k_is)
    (case k21 => k_is)
    (case a22 => k_is)
    (case l22 => k_is)
    (case e22 => k_is)
    (case k22 => k_is)
    (case a23 => k_is)
    (case l23 => k_is)
    (case e23 => k_is)
    (case k23 => k_is)
    (case a24 => k_is)
    (case l24 => k_is)
    (case e24 => k_is)
    (case k24 => k_is)
    (case a25 => k_is)
    (case t25 => k_is)
    (case l25 => k_is)
    (case e25 => k_is)
    (case k25 => k_is)
    (case a26 => k_is)
    (case l26 => k_is)
    (case e26 => k_is)
    (case k26 => k_is)
    (case a27 => k_is)
    (case l27 => k_is)
    (case e27 => k_is)
    (case k27 => k_is)
    (case a28 => k_is)
    (case l28 => k_is)
    (case e28 => k_is)
    (case k28 => k_is)
    (case a29 => k_is)
    (case l29 => k_is)
    (case e29 => k_is)
    (case k29 => k_is)
    (case a30 => k_is)
    (case l30 => k_is)
    (case e30 => k_is)
    (case k30 => k_is)
    (case z_ValueError => k_is)
    (case z_all => k_is)
    (case z_bool => k_is)
    (case z_int => k_is)
    (case z_isinstance => k_is)
    (case z_len => k_is)
    (case z_list => k_is)
    (case z_range => k_is)
    (case z_str => k_is)
    (case z_tuple => k_is)
    (case zc_MAX_SIZE => k_is)
    (case zc_MAX_DEPTH => k_is)
    (case zc_MAX_ARITY => k_is)
    (case zc_MAX_NAME => k_is)
    (case zc_LETTERS => k_is)
    (case zc_MAX_VARIABLE => k_is)
    (case zc_WORD_CHARACTERS => k_is)
    (case zc_SIGNS => k_is)
    (case zc_NAME => k_is)
    (case zc_VARIABLE => k_is)
    (case zc_END => k_is)
    (case zc_UNREADABLE => k_is)
    (case xk_HallError => k_is)
    (case xe_HallError => k_exc)
    (case xb_HallError => k_is)
    (case xt_HallError => k_is)
    (case xs_HallError => first | rfl | k_is)
    (case xhg_HallError => k_is)
    (case xhk_HallError => k_is)
    (case xhd_HallError => k_is)
    (case xha_HallError => k_is)
    (case xhn_HallError => k_is)
    (case xht_HallError => k_is)
    (case xhm_HallError => k_is)
    (case xo_Malformed => k_is)
    (case xr_Malformed => first | rfl | k_is)
    (case xsa_Malformed => k_is)
    (case xk_Malformed => k_is)
    (case xb_Malformed => k_is)
    (case xt_Malformed => k_is)
    (case xs_Malformed => first | rfl | k_is)
    (case xhg_Malformed => k_is)
    (case xhk_Malformed => k_is)
    (case xhd_Malformed => k_is)
    (case xha_Malformed => k_is)
    (case xhn_Malformed => k_is)
    (case xht_Malformed => k_is)
    (case xhm_Malformed => k_is)
    (case xk_TooLarge => k_is)
    (case xe_TooLarge => k_exc)
    (case xb_TooLarge => k_is)
    (case xt_TooLarge => k_is)
    (case xs_TooLarge => first | rfl | k_is)
    (case xhg_TooLarge => k_is)
    (case xhk_TooLarge => k_is)
    (case xhd_TooLarge => k_is)
    (case xha_TooLarge => k_is)
    (case xhn_TooLarge => k_is)
    (case xht_TooLarge => k_is)
    (case xhm_TooLarge => k_is)
    (case xpg_Tokens => k_is)
    (case xhd_Tokens => k_is)
    (case xpo_Tokens => k_is)
    (case xsa_Tokens => k_is)
    (case xmk_Tokens => k_is)
    (case xkc_Tokens => k_is)
    (case xN_Tokens__rows => k_is)
    (case xN_Tokens__at => k_is)
    (case i15 => k_is)
    (case i16 => k_is)
    (case i25 => k_is)
    (case ff_nf_index => first | rfl | k_is)
    (case ff_kit_Malformed_HallError => first | rfl | k_is)
    (case ff_kit_Malformed_ValueError => first | rfl | k_is)
#print axioms PySem.Challenge.cw_joinedends_k12_malformed_texts_holds
