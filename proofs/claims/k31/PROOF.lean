import PyProof.Rows.All
import Wide.All
import OpenK.AllK
import Wide.FinOn
import HandS.ForMost
import HandS.IsInst
import HandS.FStr
import HandS.Style
import HandS.TupAny
import HandS.Star
import HandS.ForExc
import HandS.ExcIs
import HandS.TryOnly
import HandS.Iter
import PyProof.ReprRoads
import HandS.Dict
import HandS.Words
import HandS.Ends
import PyProof.ReprLen
import PyProof.StrLawsRepr
import KE.DataCmp
import KE.DatumOrd
import PyProof.Rows.StrIntSpec
import PyProof.FString3
import HandS.Defaults
import HandS.SortKw
import KE.SortKeyHeap
import HandS.Remove
import KE.DataFind
import PySem.Challenge.RW_joinedends_k31_whole_combined_alike
set_option Elab.async false
set_option maxRecDepth 100000
/-! ### terms, and what a heap says of them -/
namespace J
open PySem L2

/-- a term of the document -/
inductive Tm where
  | var (n : Int)
  | app (f : Str) (ts : List Tm)

mutual
def Tm.sz : Tm → Nat
  | .var _ => 1
  | .app _ ts => 1 + Tm.szs ts
def Tm.szs : List Tm → Nat
  | [] => 0
  | t :: ts => Tm.sz t + Tm.szs ts
end
mutual
def Tm.dep : Tm → Nat
  | .var _ => 1
  | .app _ ts => 1 + Tm.deps ts
def Tm.deps : List Tm → Nat
  | [] => 0
  | t :: ts => max (Tm.dep t) (Tm.deps ts)
end
mutual
/-- t stands in H as the value v -/
def TmIn (H : Hp) : Tm → V → Prop
  | .var n, v => v = .int n
  | .app f ts, v => ∃ a vs, v = .ref a ∧ H a = some (.tup (.str f :: vs)) ∧ TmsIn H ts vs
def TmsIn (H : Hp) : List Tm → List V → Prop
  | [], vs => vs = []
  | t :: ts, vs => ∃ v r, vs = v :: r ∧ TmIn H t v ∧ TmsIn H ts r
end
/-- the arity of the k-th drawn operation -/
def ar (k : Nat) : Nat := if k < 2 then 0 else if k = 5 then 2 else k - 1
theorem ar_zero {k : Nat} (h : k < 2) : ar k = 0 := if_pos h
theorem ar_two {n : Nat} (h : n < 3) : ar (n + 2) = n + 1 := by unfold ar; rw [if_neg (by omega), if_neg (by omega)]; rfl
theorem ar_le {k : Nat} (h : k < 6) : ar k ≤ 3 := by unfold ar; split; · omega
                                                     · split <;> omega
theorem ar_pos {k : Nat} (h : 2 ≤ k) : 1 ≤ ar k := by unfold ar; rw [if_neg (by omega)]; split <;> omega
mutual
/-- variables below B, applications of the named operations -/
def Tm.wf (fs : List Str) (B : Int) : Tm → Prop
  | .var n => 0 ≤ n ∧ n < B
  | .app f ts => (∃ k, fs[k]? = some f ∧ ts.length = ar k) ∧ Tm.wfs fs B ts
def Tm.wfs (fs : List Str) (B : Int) : List Tm → Prop
  | [] => True
  | t :: ts => Tm.wf fs B t ∧ Tm.wfs fs B ts
end

/-- induction over terms -/
theorem Tm.ind {P : Tm → Prop} (hv : ∀ n, P (.var n)) (ha : ∀ f ts, (∀ t ∈ ts, P t) → P (.app f ts)) : ∀ t, P t
  | .var n => hv n
  | .app f ts => ha f ts (go ts)
where go : ∀ ts : List Tm, ∀ t ∈ ts, P t
  | [], _, h => nomatch h
  | u :: us, t, h => by
    rcases List.mem_cons.mp h with e | h
    · rw [e]; exact Tm.ind hv ha u
    · exact go us t h

theorem Tm.sz_pos : ∀ t : Tm, 1 ≤ t.sz
  | .var _ => Nat.le_refl _
  | .app _ _ => by show 1 ≤ 1 + _; omega
theorem Tm.dep_pos : ∀ t : Tm, 1 ≤ t.dep
  | .var _ => Nat.le_refl _
  | .app _ _ => by show 1 ≤ 1 + _; omega
theorem Tm.dep_of_mem : ∀ {ts : List Tm} {t : Tm}, t ∈ ts → t.dep ≤ Tm.deps ts
  | u :: us, t, h => by
    show t.dep ≤ max u.dep (Tm.deps us)
    rcases List.mem_cons.mp h with e | h
    · rw [e]; omega
    · have := Tm.dep_of_mem h; omega
theorem Tm.deps_le : ∀ {ts : List Tm} {n : Nat}, (∀ t ∈ ts, t.dep ≤ n) → Tm.deps ts ≤ n
  | [], _, _ => Nat.zero_le _
  | u :: us, n, h => by
    have h1 := h u (List.mem_cons_self ..)
    have h2 := Tm.deps_le (ts := us) fun t m => h t (List.mem_cons_of_mem _ m)
    show max u.dep (Tm.deps us) ≤ n
    omega
theorem Tm.szs_le : ∀ {ts : List Tm} {M : Nat}, (∀ t ∈ ts, 2 * t.sz + 1 ≤ M) → 2 * Tm.szs ts + ts.length ≤ ts.length * M
  | [], _, _ => by show 2 * 0 + 0 ≤ _; omega
  | u :: us, M, h => by
    have h1 := h u (List.mem_cons_self ..)
    have h2 := Tm.szs_le (ts := us) (M := M) fun t m => h t (List.mem_cons_of_mem _ m)
    show 2 * (u.sz + Tm.szs us) + (us.length + 1) ≤ (us.length + 1) * M
    rw [Nat.add_mul, Nat.one_mul]
    omega
theorem Tm.szs_three {ts : List Tm} {h : Nat} (hl : ts.length ≤ 3) (hw : ∀ t ∈ ts, 2 * t.sz + 1 ≤ 3 ^ h) : 2 * (1 + Tm.szs ts) + 1 ≤ 3 ^ (h + 1) := by
  have h1 := Tm.szs_le hw
  have h3 : 1 ≤ 3 ^ h := Nat.pow_pos (by decide)
  have h2 : 3 ^ (h + 1) = 3 ^ h * 3 := rfl
  generalize 3 ^ h = M at *
  rw [h2]
  match e : ts.length, hl with
  | 0, _ => rw [e] at h1; omega
  | 1, _ => rw [e] at h1; omega
  | 2, _ => rw [e] at h1; omega
  | 3, _ => rw [e] at h1; omega
theorem Tm.wf_of_mem {fs : List Str} {B : Int} : ∀ {ts : List Tm} {t : Tm}, Tm.wfs fs B ts → t ∈ ts → t.wf fs B
  | u :: us, t, w, h => by
    have w : u.wf fs B ∧ Tm.wfs fs B us := w
    rcases List.mem_cons.mp h with e | h
    · rw [e]; exact w.1
    · exact Tm.wf_of_mem w.2 h
theorem Tm.wfs_of {fs : List Str} {B : Int} : ∀ {ts : List Tm}, (∀ t ∈ ts, t.wf fs B) → Tm.wfs fs B ts
  | [], _ => True.intro
  | u :: us, h => ⟨h u (List.mem_cons_self ..), Tm.wfs_of fun t m => h t (List.mem_cons_of_mem _ m)⟩

/-- a tuple that is known stays known -/
def Tu (H H' : Hp) : Prop := ∀ a xs, H a = some (.tup xs) → H' a = some (.tup xs)
theorem Tu.refl (H : Hp) : Tu H H := fun _ _ h => h
theorem Tu.trans {H H1 H2 : Hp} (a : Tu H H1) (b : Tu H1 H2) : Tu H H2 := fun x y h => b x y (a x y h)
theorem tu_same {H H' : Hp} (s : Same H H') : Tu H H' := fun a _ h => s a _ h
theorem tu_upd {H : Hp} {p : Addr} {o : HO} (h : ∀ xs, H p ≠ some (.tup xs)) : Tu H (upd H p o) := fun a xs e => by
  have ne : a ≠ p := fun z => by subst z; exact h _ e
  rw [upd_ne ne]; exact e
mutual
theorem TmIn.mono {H H' : Hp} (s : Tu H H') : ∀ (t : Tm) (v : V), TmIn H t v → TmIn H' t v
  | .var _, _, h => h
  | .app _ ts, _, ⟨a, vs, e, h, r⟩ => ⟨a, vs, e, s _ _ h, TmsIn.mono s ts vs r⟩
theorem TmsIn.mono {H H' : Hp} (s : Tu H H') : ∀ (ts : List Tm) (vs : List V), TmsIn H ts vs → TmsIn H' ts vs
  | [], _, h => h
  | t :: ts, _, ⟨v, r, e, h, q⟩ => ⟨v, r, e, TmIn.mono s t v h, TmsIn.mono s ts r q⟩
end
theorem TmIn.tu {H H' : Hp} {t : Tm} {v : V} (h : TmIn H t v) (s : Tu H H') : TmIn H' t v := TmIn.mono s t v h
theorem TmsIn.tu {H H' : Hp} {t : List Tm} {v : List V} (h : TmsIn H t v) (s : Tu H H') : TmsIn H' t v := TmsIn.mono s t v h
theorem TmsIn.length {H : Hp} : ∀ {ts : List Tm} {vs : List V}, TmsIn H ts vs → vs.length = ts.length
  | [], _, h => by cases (show _ = [] from h); rfl
  | t :: ts, _, ⟨v, r, e, _, q⟩ => by rw [e, List.length_cons, List.length_cons, TmsIn.length q]
theorem TmsIn.get {H : Hp} : ∀ {ts : List Tm} {vs : List V} {i : Nat} {v : V}, TmsIn H ts vs → vs[i]? = some v → ∃ t, ts[i]? = some t ∧ TmIn H t v
  | [], _, i, v, h, e => by cases (show _ = [] from h); simp at e
  | t :: ts, _, 0, v, ⟨w, r, rfl, h, q⟩, e => by
    have e : w = v := by simpa using e
    exact ⟨t, rfl, e ▸ h⟩
  | t :: ts, _, i + 1, v, ⟨w, r, rfl, h, q⟩, e => by
    obtain ⟨u, h1, h2⟩ := TmsIn.get (i := i) (v := v) q (by simpa using e)
    exact ⟨u, by simpa using h1, h2⟩
theorem TmsIn.get' {H : Hp} {ts : List Tm} {vs : List V} {i : Nat} {t : Tm} (h : TmsIn H ts vs) (e : ts[i]? = some t) : ∃ v, vs[i]? = some v ∧ TmIn H t v := by
  have hi : i < ts.length := (List.getElem?_eq_some_iff.mp e).1
  rw [← h.length] at hi
  obtain ⟨u, h1, h2⟩ := h.get (List.getElem?_eq_getElem hi)
  rw [e] at h1
  cases h1
  exact ⟨_, List.getElem?_eq_getElem hi, h2⟩
theorem TmsIn.append {H : Hp} : ∀ {ts us : List Tm} {vs ws : List V}, TmsIn H ts vs → TmsIn H us ws → TmsIn H (ts ++ us) (vs ++ ws)
  | [], us, vs, ws, h, q => by cases (show vs = [] from h); exact q
  | t :: ts, us, _, ws, ⟨v, r, rfl, h, k⟩, q => ⟨v, r ++ ws, rfl, h, TmsIn.append k q⟩
theorem TmsIn.one {H : Hp} {t : Tm} {v : V} (h : TmIn H t v) : TmsIn H [t] [v] := ⟨v, [], rfl, h, rfl⟩

/-! ### heaps -/
theorem same_new {H : Hp} {p : Addr} (h : H p = none) (o : HO) : Same H (upd H p o) := fun b u q => by rw [upd_ne (ne_of_none q h)]; exact q
/-- what H does not know may change -/
theorem same_mut {H H' : Hp} {p : Addr} (e : Same H H') (h : H p = none) (o : HO) : Same H (upd H' p o) := fun a u ha => by
  rw [upd_ne (ne_of_none ha h)]; exact e a u ha
theorem al_same {H H1 : Hp} {p : Addr} {o : HO} (n : H p = none) (e : upd H p o = H1) : Same H H1 := e ▸ same_new n o
theorem al_at {H H1 : Hp} {p : Addr} {o : HO} (e : upd H p o = H1) : H1 p = some o := by rw [← e]; exact upd_same
theorem al_mut {H0 H H1 : Hp} {p : Addr} {o : HO} (s : Same H0 H) (n : H0 p = none) (e : upd H p o = H1) : Same H0 H1 := e ▸ same_mut s n o
theorem al_but {H H1 : Hp} {p : Addr} {o : HO} (e : upd H p o = H1) : ∀ b u, H b = some u → b ≠ p → H1 b = some u := fun b u h n => by rw [← e, upd_ne n]; exact h
/-- all but the object at s stands as it stood -/
def But (s : Addr) (H H' : Hp) : Prop := ∀ b o, H b = some o → b ≠ s → H' b = some o
theorem But.refl (s : Addr) (H : Hp) : But s H H := fun _ _ h _ => h
theorem But.trans {s : Addr} {H H1 H2 : Hp} (a : But s H H1) (b : But s H1 H2) : But s H H2 := fun c o h n => b c o (a c o h n) n
theorem but_same {s : Addr} {H H' : Hp} (h : Same H H') : But s H H' := fun b o q _ => h b o q
theorem but_upd {s : Addr} {H : Hp} (o : HO) : But s H (upd H s o) := fun b u q n => by rw [upd_ne n]; exact q
theorem But.mut {s : Addr} {H H' : Hp} {p : Addr} (e : But s H H') (h : H p = none) (o : HO) : But s H (upd H' p o) := fun a u ha n => by
  rw [upd_ne (ne_of_none ha h)]; exact e a u ha n

/-- the list at s from which a script is drawn (what is left of a number, the numbers at l, the place, the seed) -/
def St (H : Hp) (s l : Addr) : Prop := ∃ (v at0 sd : Int) (ns : List Int), H s = some (.lst [.int v, .ref l, .int at0, .int sd]) ∧ H l = some (.lst (ns.map V.int)) ∧
  0 ≤ at0 ∧ at0 ≤ (ns.length : Int) ∧ 0 ≤ v ∧ 0 ≤ sd ∧ sd < 2147483648 ∧ ns.length ≤ 63
theorem St.ne_list {H : Hp} {s l : Addr} {ns : List Int} {v at0 sd : Int} {l' : Addr} (h : H s = some (.lst [.int v, .ref l', .int at0, .int sd])) (q : H l = some (.lst (ns.map V.int))) : l ≠ s := by
  intro e; subst e
  rw [h] at q
  injection q with q; injection q with q
  match ns, q with
  | [], q => cases q
  | [_], q => injection q with _ q; cases q
  | _ :: _ :: _, q => injection q with _ q; injection q with q _; cases q
theorem St.ne {H : Hp} {s l : Addr} (h : St H s l) : l ≠ s := by
  obtain ⟨v, a, d, ns, h1, h2, r⟩ := h
  exact St.ne_list h1 h2
theorem St.same {H H' : Hp} {s l : Addr} (h : St H s l) (b : Same H H') : St H' s l := by
  obtain ⟨v, a, d, ns, h1, h2, r⟩ := h
  exact ⟨v, a, d, ns, b _ _ h1, b _ _ h2, r⟩
theorem St.lst {H : Hp} {s l : Addr} (h : St H s l) : ∃ v a d : Int, H s = some (.lst [.int v, .ref l, .int a, .int d]) := by
  obtain ⟨v, a, d, ns, h1, _⟩ := h
  exact ⟨_, _, _, h1⟩
theorem St.nums {H : Hp} {s l : Addr} (h : St H s l) : ∃ ns : List Int, H l = some (.lst (ns.map V.int)) := by
  obtain ⟨v, a, d, ns, h1, h2, _⟩ := h
  exact ⟨_, h2⟩
theorem St.upd {H : Hp} {s l D : Addr} {o : HO} (h : St H s l) (n1 : s ≠ D) (n2 : l ≠ D) : St (upd H D o) s l := by
  obtain ⟨v, a, d, ns, h1, h2, r⟩ := h
  exact ⟨v, a, d, ns, by rw [upd_ne n1]; exact h1, by rw [upd_ne n2]; exact h2, r⟩
/-- an address that was free -/
theorem St.free {H : Hp} {s l D : Addr} (h : St H s l) (n : H D = none) : s ≠ D ∧ l ≠ D := by
  obtain ⟨v, a, d, ns, h1, h2, r⟩ := h
  exact ⟨ne_of_none h1 n, ne_of_none h2 n⟩
theorem St.but {H H' : Hp} {s l p : Addr} (h : St H s l) (b : But p H H') (n1 : s ≠ p) (n2 : l ≠ p) : St H' s l := by
  obtain ⟨v, a, d, ns, h1, h2, r⟩ := h
  exact ⟨v, a, d, ns, b _ _ h1 n1, b _ _ h2 n2, r⟩
theorem St.tu {H H' : Hp} {s l : Addr} (h : St H s l) (b : But s H H') : Tu H H' := fun a xs e => b a _ e fun z => by
  obtain ⟨_, _, _, q⟩ := h.lst
  rw [z, q] at e; cases e
/-- an object of another kind than the state's -/
theorem St.ne_tup {H : Hp} {s l a : Addr} {xs : List V} (h : St H s l) (e : H a = some (.tup xs)) : a ≠ s := fun z => by
  obtain ⟨_, _, _, q⟩ := h.lst
  rw [z, q] at e; cases e
theorem St.ne_dK {H : Hp} {s l a : Addr} {xs} (h : St H s l) (e : H a = some (.dK xs)) : a ≠ s := fun z => by
  obtain ⟨_, _, _, q⟩ := h.lst
  rw [z, q] at e; cases e

/-! ### names and operations -/
def Low (z : Str) : Prop := ∀ c ∈ z.cps.toList, 97 ≤ c ∧ c ≤ 122
/-- drawn names -/
structure Names (fs : List Str) : Prop where
  low : ∀ f ∈ fs, Low f
  lo : ∀ f ∈ fs, 1 ≤ f.length
  hi : ∀ f ∈ fs, f.length ≤ 7
  nd : fs.Nodup
/-- drawn operations at o -/
def Ops (H : Hp) (o : Addr) (fs : List Str) : Prop := Names fs ∧ (fs.length = 4 ∨ fs.length = 5) ∧ ∃ as : List Addr, H o = some (.lst (as.map V.ref)) ∧ as.length = fs.length ∧
  ∀ (k : Nat) (f : Str) (a : Addr), fs[k]? = some f → as[k]? = some a → H a = some (.tup [.str f, .int (ar k)])
theorem Ops.ne {H : Hp} {o s l : Addr} {fs : List Str} (h : Ops H o fs) (q : St H s l) : o ≠ s := by
  obtain ⟨_, hl, as, h1, h2, _⟩ := h
  obtain ⟨v, a, d, ns, e, _⟩ := q
  intro z; subst z
  rw [h1] at e
  injection e with e; injection e with e
  match as, e with
  | [], e => cases e
  | x :: _, e => injection e with e _; cases e
theorem Ops.but {H H' : Hp} {o s l : Addr} {fs : List Str} (h : Ops H o fs) (q : St H s l) (b : But s H H') : Ops H' o fs := by
  have ne := h.ne q
  obtain ⟨n, hl, as, h1, h2, h3⟩ := h
  exact ⟨n, hl, as, b _ _ h1 ne, h2, fun k f a e e' => b _ _ (h3 k f a e e') (q.ne_tup (h3 k f a e e'))⟩
theorem Ops.same {H H' : Hp} {o : Addr} {fs : List Str} (h : Ops H o fs) (b : Same H H') : Ops H' o fs := by
  obtain ⟨n, hl, as, h1, h2, h3⟩ := h
  exact ⟨n, hl, as, b _ _ h1, h2, fun k f a e e' => b _ _ (h3 k f a e e')⟩
theorem Ops.get {H : Hp} {o : Addr} {fs : List Str} (h : Ops H o fs) {k : Nat} (hk : k < fs.length) : ∃ (xs : List V) (a : Addr) (f : Str), H o = some (.lst xs) ∧ xs.length = fs.length ∧ xs[k]? = some (.ref a) ∧ fs[k]? = some f ∧ H a = some (.tup [.str f, .int (ar k)]) := by
  obtain ⟨n, hl, as, h1, h2, h3⟩ := h
  have hk' : k < as.length := by omega
  refine ⟨_, as[k], fs[k], h1, by rw [List.length_map, h2], ?_, List.getElem?_eq_getElem hk, h3 k _ _ (List.getElem?_eq_getElem hk) (List.getElem?_eq_getElem hk')⟩
  rw [List.getElem?_map, List.getElem?_eq_getElem hk']; rfl

/-! ### rules whose readings name the written part -/
def rLenS (K : PySem.W.Frag) : List V → Hp → VK → Prop := fun xs H Q => ∃ p ys, xs = [.ref p] ∧ (SqL K H p ys ∨ SqT K H p ys) ∧ Q (.int ys.length) H
def rListS (K : PySem.W.Frag) : List V → Hp → VK → Prop := fun xs H Q => ∃ p ys, xs = [.ref p] ∧ (SqL K H p ys ∨ SqT K H p ys) ∧ ∀ l, H l = none → Q (.ref l) (upd H l (.lst ys))
def rTupS (K : PySem.W.Frag) : List V → Hp → VK → Prop := fun xs H Q => ∃ p ys, xs = [.ref p] ∧ ((SqL K H p ys ∧ ∀ l, H l = none → Q (.ref l) (upd H l (.tup ys))) ∨ (SqT K H p ys ∧ Q (.ref p) H))
section
variable {X : Cx}
theorem j_len : CallR X (.builtin "len") (rLenS X.K) := call_len_seq
theorem j_list : CallR X (.type "list") (rListS X.K) := call_list_of
theorem j_tuple : CallR X (.type "tuple") (rTupS X.K) := call_tuple_of
end
/-! ### two ways meet again ahead of the rest -/
theorem seq_join {t u : TS} {D : Ends} {σ : L2.St} {H : Hp} (I : L2.St → Hp → Prop) (h2 : ∀ σ' H', I σ' H' → u D σ' H') (h1 : ∀ N : L2.St → Hp → Prop, (∀ σ' H', I σ' H' → N σ' H') → t { D with nx := N } σ H) : tSeq t u D σ H := h1 (u D) h2
theorem int_of {i j : Int} (h : (V.bl (decide (i = j))) = .bl true) : i = j := by
  injection h with h; exact of_decide_eq_true h
theorem fmod_0 {a m : Int} (h : 1 ≤ m) : 0 ≤ a.fmod m := by
  rw [Int.fmod_eq_emod_of_nonneg _ (by omega)]; exact Int.emod_nonneg _ (by omega)
theorem fmod_lt {a m : Int} (h : 1 ≤ m) : a.fmod m < m := by
  rw [Int.fmod_eq_emod_of_nonneg _ (by omega)]; exact Int.emod_lt_of_pos _ (by omega)
theorem at_int {ns : List Int} {k : Int} (h0 : 0 ≤ k) (h : k < (ns.length : Int)) : ∃ n, atI (ns.map V.int) k = some (.int n) := by
  have hk : k.toNat < ns.length := by omega
  have q : atI (ns.map V.int) ((k.toNat : Nat) : Int) = some (.int ns[k.toNat]) := atI_nat (by rw [List.getElem?_map, List.getElem?_eq_getElem hk]; rfl)
  rw [Int.toNat_of_nonneg h0] at q
  exact ⟨_, q⟩
theorem at_get {xs : List V} {k : Int} {v : V} (h0 : 0 ≤ k) (h : xs[k.toNat]? = some v) : atI xs k = some v := by
  have q : atI xs ((k.toNat : Nat) : Int) = some v := atI_nat h
  rw [Int.toNat_of_nonneg h0] at q
  exact q
/-! ### contracts that nothing meets -/
theorem fn_none {P : Program} {w : World} {K : PySem.W.Frag} {mg : Str → Option Value} {base : Heap} {CX : CXT} {f : Addr} {fd : FuncData} {ps : List Str} {sp : Sp} {k : Nat} (no : ∀ vs H Q E, ¬ sp vs H Q E) : FnOk P w K mg base CX k f fd ps sp :=
  ⟨fun vs H Q E h => absurd h (no vs H Q E), fun _ _ _ _ _ _ vs Q E _ _ _ _ h => absurd h (no vs _ Q E)⟩
end J
/-! ### isinstance, slices of terms -/
namespace J
open PySem L2
section
variable {K : PySem.W.Frag} {H : Hp} {Q : VK}
theorem isi {x : V} {n m : String} {b : Bool} (ty : TyX K H x (.type n)) (h : kitB n m = some b) (q : Q (.bl b) H) : rIsi K [x, .ty m] H Q := ⟨x, .ty m, .type n, .type m, b, rfl, .ty m, ty, kit_ty h, q⟩
theorem isi_int {i : Int} {m : String} {b : Bool} (h : kitB "int" m = some b) (q : Q (.bl b) H) : rIsi K [.int i, .ty m] H Q := isi (.base (.int i)) h q
theorem isi_str {x : Str} {m : String} {b : Bool} (h : kitB "str" m = some b) (q : Q (.bl b) H) : rIsi K [.str x, .ty m] H Q := isi (.base (.str x)) h q
theorem isi_tup {a : Addr} {xs : List V} {m : String} {b : Bool} (e : H a = some (.tup xs)) (h : kitB "tuple" m = some b) (q : Q (.bl b) H) : rIsi K [.ref a, .ty m] H Q := isi (.base (.tup e)) h q
theorem isi_lst {a : Addr} {xs : List V} {m : String} {b : Bool} (e : H a = some (.lst xs)) (h : kitB "list" m = some b) (q : Q (.bl b) H) : rIsi K [.ref a, .ty m] H Q := isi (.base (.lst e)) h q
theorem isi_dK {a : Addr} {xs} {m : String} {b : Bool} (e : H a = some (.dK xs)) (h : kitB "dict" m = some b) (q : Q (.bl b) H) : rIsi K [.ref a, .ty m] H Q := isi (.base (.dK e)) h q
theorem isi_bl {i : Bool} {m : String} {b : Bool} (h : kitB "bool" m = some b) (q : Q (.bl b) H) : rIsi K [.bl i, .ty m] H Q := isi (.base (.bl i)) h q
end
theorem cut1 (x : V) (vs : List V) : cutV (x :: vs) (some 1) none = vs := by
  unfold cutV
  have e1 : HT.sIx (x :: vs).length 0 (some 1) = 1 := by
    show min 1 (vs.length + 1) = 1
    omega
  have e2 : HT.sIx (x :: vs).length (x :: vs).length none = vs.length + 1 := rfl
  rw [e1, e2]
  simp
theorem sl1c (x : V) (vs : List V) : ¬ (HT.sIx (x :: vs).length 0 (some 1) = 0 ∧ HT.sIx (x :: vs).length (x :: vs).length none = (x :: vs).length) := by
  intro ⟨z, _⟩
  have e1 : HT.sIx (x :: vs).length 0 (some 1) = 1 := by
    show min 1 (vs.length + 1) = 1
    omega
  rw [e1] at z; cases z
theorem at_zero {x : V} {xs : List V} : atI (x :: xs) 0 = some x := atI_nat (j := 0) rfl
/-- t[1:] of an application -/
theorem sl1 {K : PySem.W.Frag} {H : Hp} {Q : VK} {a : Addr} {x : V} {vs : List V} (h : H a = some (.tup (x :: vs))) (q : ∀ p, H p = none → Q (.ref p) (upd H p (.tup vs))) : rSlT K (.ref a) (some 1) none H Q := by
  refine ⟨a, _, rfl, SqT.of h, ?_, ?_⟩
  · intro ⟨z, _⟩
    have e1 : HT.sIx (x :: vs).length 0 (some 1) = 1 := by
      show min 1 (vs.length + 1) = 1
      omega
    rw [e1] at z; cases z
  · rw [cut1]; exact q
theorem But.same {s : Addr} {H H' : Hp} (b : But s H H') {H0 : Hp} (k : Same H0 H) (n : H0 s = none) : Same H0 H' := fun a o e => b a o (k a o e) (ne_of_none e n)
theorem But.upd {s : Addr} {H H' : Hp} (b : But s H H') (o : HO) : But s H (upd H' s o) := b.trans (but_upd o)
theorem but_tu {s : Addr} {H H' : Hp} (b : But s H H') (h : ∀ xs, H s ≠ some (.tup xs)) : Tu H H' := fun a xs e => b a _ e fun z => by
  rw [z] at e; exact h _ e
theorem lst_not_tup {H : Hp} {p : Addr} {ys : List V} (h : H p = some (.lst ys)) : ∀ xs, H p ≠ some (.tup xs) := fun xs e => by
  rw [h] at e; cases e
theorem TmIn.dep_arg {f : Str} {ts : List Tm} {t : Tm} {N : Nat} (h : (Tm.app f ts).dep ≤ N + 1) (m : t ∈ ts) : t.dep ≤ N := by
  have h : 1 + Tm.deps ts ≤ N + 1 := h
  have := Tm.dep_of_mem m
  omega
theorem Tm.len_le : ∀ ts : List Tm, ts.length ≤ Tm.szs ts
  | [] => Nat.le_refl _
  | u :: us => by
    have h1 := u.sz_pos
    have h2 := Tm.len_le us
    show us.length + 1 ≤ u.sz + Tm.szs us
    omega
theorem Tm.sz_arg : ∀ {ts : List Tm} {t : Tm}, t ∈ ts → t.sz ≤ Tm.szs ts
  | u :: us, t, h => by
    show t.sz ≤ u.sz + Tm.szs us
    rcases List.mem_cons.mp h with e | h
    · rw [e]; omega
    · have := Tm.sz_arg h; omega
end J
/-! ### tests by their meaning -/
namespace J
open PySem L2
theorem ifD {p : Prop} [Decidable p] {A B : Prop} (h1 : p → A) (h2 : ¬ p → B) : if decide p = true then A else B := ite2 (fun e => h1 (of_decide_eq_true e)) fun e => h2 fun z => e (decide_eq_true z)
theorem ifN {p : Prop} [Decidable p] {A B : Prop} (h1 : ¬ p → A) (h2 : p → B) : if (!decide p) = true then A else B := by
  by_cases h : p
  · rw [decide_eq_true h]; exact h2 h
  · rw [decide_eq_false h]; exact h1 h
theorem ifEq {i j : Int} {A B : Prop} (h1 : i = j → A) (h2 : i ≠ j → B) : if decide (V.int i = V.int j) = true then A else B := ifD (fun e => h1 (by injection e)) fun e => h2 fun z => e (by rw [z])
theorem ifNe {i j : Int} {A B : Prop} (h1 : i ≠ j → A) (h2 : i = j → B) : if (!decide (V.int i = V.int j)) = true then A else B := ifN (fun e => h1 fun z => e (by rw [z])) fun e => h2 (by injection e)
theorem ifEqS {i j : Str} {A B : Prop} (h1 : i = j → A) (h2 : i ≠ j → B) : if decide (V.str i = V.str j) = true then A else B := ifD (fun e => h1 (by injection e)) fun e => h2 fun z => e (by rw [z])
theorem ifNeS {i j : Str} {A B : Prop} (h1 : i ≠ j → A) (h2 : i = j → B) : if (!decide (V.str i = V.str j)) = true then A else B := ifN (fun e => h1 fun z => e (by rw [z])) fun e => h2 (by injection e)
theorem ifB {b : Bool} {A B : Prop} (h1 : b = true → A) (h2 : b = false → B) : if b = true then A else B := ite2 h1 fun e => h2 (by cases b; rfl; exact absurd rfl e)
theorem ifNB {b : Bool} {A B : Prop} (h1 : b = false → A) (h2 : b = true → B) : if (!b) = true then A else B := by
  cases b with
  | true => exact h2 rfl
  | false => exact h1 rfl
theorem list_take_succ {α : Type} {l : List α} {i : Nat} {x : α} (h : l[i]? = some x) : l.take (i + 1) = l.take i ++ [x] := by
  rw [List.take_succ, h]; rfl
end J
namespace J
open PySem L2
mutual
theorem Tm.wf_mono {fs : List Str} {B B' : Int} (h : B ≤ B') : ∀ t : Tm, t.wf fs B → t.wf fs B'
  | .var n, w => by
    have w : 0 ≤ n ∧ n < B := w
    exact ⟨w.1, by omega⟩
  | .app f ts, w => ⟨w.1, Tm.wfs_mono h ts w.2⟩
theorem Tm.wfs_mono {fs : List Str} {B B' : Int} (h : B ≤ B') : ∀ ts : List Tm, Tm.wfs fs B ts → Tm.wfs fs B' ts
  | [], _ => True.intro
  | t :: ts, w => ⟨Tm.wf_mono h t w.1, Tm.wfs_mono h ts w.2⟩
end
theorem Tm.wf.mono {fs : List Str} {B B' : Int} {t : Tm} (w : t.wf fs B) (h : B ≤ B') : t.wf fs B' := Tm.wf_mono h t w
end J

/-! ### six drawn operations: two constants, one of arity 1, two of arity 2, one of arity 3. The names fs stand with the last two exchanged, so that ar tells the arity of fs[k] -/
namespace J
open PySem L2
def ix6 (k : Nat) : Nat := if k = 4 then 5 else if k = 5 then 4 else k
theorem ix6_low {k : Nat} (h : k < 2) : ix6 k = k := by unfold ix6; rw [if_neg (by omega), if_neg (by omega)]
theorem ix6_mid {k : Nat} (h : 2 ≤ k) (h6 : k < 6) : 2 ≤ ix6 k ∧ ix6 k < 6 := by unfold ix6; split <;> (try split) <;> omega
theorem ix6_lt {k : Nat} (h6 : k < 6) : ix6 k < 6 := by unfold ix6; split <;> (try split) <;> omega
def Ops6 (H : Hp) (o : Addr) (fs : List Str) : Prop := Names fs ∧ fs.length = 6 ∧ ∃ as : List Addr, H o = some (.lst (as.map V.ref)) ∧ as.length = 6 ∧
  ∀ (k : Nat) (f : Str) (a : Addr), fs[ix6 k]? = some f → as[k]? = some a → H a = some (.tup [.str f, .int (ar (ix6 k))])
theorem Ops6.ne {H : Hp} {o s l : Addr} {fs : List Str} (h : Ops6 H o fs) (q : St H s l) : o ≠ s := by
  obtain ⟨_, hl, as, h1, h2, _⟩ := h
  obtain ⟨v, a, d, ns, e, _⟩ := q
  intro z; subst z
  rw [h1] at e
  injection e with e; injection e with e
  match as, e with
  | [], e => cases e
  | x :: _, e => injection e with e _; cases e
theorem Ops6.but {H H' : Hp} {o s l : Addr} {fs : List Str} (h : Ops6 H o fs) (q : St H s l) (b : But s H H') : Ops6 H' o fs := by
  have ne := h.ne q
  obtain ⟨n, hl, as, h1, h2, h3⟩ := h
  exact ⟨n, hl, as, b _ _ h1 ne, h2, fun k f a e e' => b _ _ (h3 k f a e e') (q.ne_tup (h3 k f a e e'))⟩
theorem Ops6.same {H H' : Hp} {o : Addr} {fs : List Str} (h : Ops6 H o fs) (b : Same H H') : Ops6 H' o fs := by
  obtain ⟨n, hl, as, h1, h2, h3⟩ := h
  exact ⟨n, hl, as, b _ _ h1, h2, fun k f a e e' => b _ _ (h3 k f a e e')⟩
theorem Ops6.get {H : Hp} {o : Addr} {fs : List Str} (h : Ops6 H o fs) {k : Nat} (hk : k < 6) : ∃ (xs : List V) (a : Addr) (f : Str), H o = some (.lst xs) ∧ xs.length = 6 ∧ xs[k]? = some (.ref a) ∧ fs[ix6 k]? = some f ∧ H a = some (.tup [.str f, .int (ar (ix6 k))]) := by
  obtain ⟨n, hl, as, h1, h2, h3⟩ := h
  have hk' : k < as.length := by omega
  have hj : ix6 k < fs.length := by rw [hl]; exact ix6_lt hk
  refine ⟨_, as[k], fs[ix6 k], h1, by rw [List.length_map, h2], ?_, List.getElem?_eq_getElem hj, h3 k _ _ (List.getElem?_eq_getElem hj) (List.getElem?_eq_getElem hk')⟩
  rw [List.getElem?_map, List.getElem?_eq_getElem hk']; rfl
/-- the last two exchanged -/
def sw6 : List Str → List Str
  | [a, b, c, d, e, f] => [a, b, c, d, f, e]
  | l => l
theorem sw6_len {fs : List Str} (h : fs.length = 6) : (sw6 fs).length = 6 := match fs, h with | [_, _, _, _, _, _], _ => rfl
theorem sw6_get {fs : List Str} (h : fs.length = 6) {k : Nat} (hk : k < 6) : (sw6 fs)[ix6 k]? = fs[k]? := by
  match fs, h with
  | [_, _, _, _, _, _], _ =>
    match k, hk with
    | 0, _ => rfl
    | 1, _ => rfl
    | 2, _ => rfl
    | 3, _ => rfl
    | 4, _ => rfl
    | 5, _ => rfl
    | n + 6, h => omega
theorem sw6_perm {fs : List Str} (h : fs.length = 6) : (sw6 fs).Perm fs := match fs, h with
  | [_, _, _, _, e, f], _ => .cons _ (.cons _ (.cons _ (.cons _ (.swap e f []))))
theorem sw6_names {fs : List Str} (h : fs.length = 6) (n : Names fs) : Names (sw6 fs) :=
  have p := sw6_perm h
  ⟨fun f m => n.low f (p.subset m), fun f m => n.lo f (p.subset m), fun f m => n.hi f (p.subset m), p.nodup_iff.mpr n.nd⟩
end J

/-! ### texts as lists of signs -/
namespace J
open PySem L2

theorem len_tl (x : Str) : x.length = x.cps.toList.length := by
  show x.cps.size = _
  rw [Array.length_toList]
theorem tl_inj {x y : Str} (h : x.cps.toList = y.cps.toList) : x = y := by
  cases x; cases y
  exact congrArg Str.mk (Array.toList_inj.mp h)
theorem tl_app (x y : Str) : (x ++ y).cps.toList = x.cps.toList ++ y.cps.toList := TL.tl_append x y
theorem len_app (x y : Str) : (x ++ y).length = x.length + y.length := by
  rw [len_tl, tl_app, List.length_append, ← len_tl, ← len_tl]
/-- texts joined by nothing -/
theorem join0 : ∀ zs : List Str, (Txt.join "" zs).cps.toList = (zs.map fun z => z.cps.toList).flatten := by
  intro zs
  rw [TL.join_eq]
  show TL.tl (Str.join "" zs) = _
  rw [TL.tl_join]
  have e : TL.tl ("" : Str) = [] := rfl
  rw [e]
  induction zs with
  | nil => rfl
  | cons a r ih =>
    cases r with
    | nil => simp [TL.joinL]
    | cons b r => 
      show TL.tl a ++ ([] ++ TL.joinL [] (TL.tl b :: r.map TL.tl)) = _
      rw [List.nil_append, List.map_cons, List.flatten_cons, ← ih]
      rfl
theorem abc : ∀ k : Nat, k < 26 → ("abcdefghijklmnopqrstuvwxyz" : Str).cps.toList[k]? = some (97 + k) := by decide +kernel
theorem abc_at {r : Int} (h0 : 0 ≤ r) (h1 : r < 26) : atI ("abcdefghijklmnopqrstuvwxyz" : Str).cps.toList r = some (97 + r.toNat) := by
  have q := atI_nat (abc r.toNat (by omega))
  rw [Int.toNat_of_nonneg h0] at q
  exact q
theorem low_one {k : Nat} (h : k < 26) : Low ⟨#[97 + k]⟩ := fun c hc => by
  have hc : c ∈ [97 + k] := hc
  rw [List.mem_singleton] at hc
  omega
theorem low_app {x y : Str} (a : Low x) (b : Low y) : Low (x ++ y) := fun c hc => by
  rw [tl_app] at hc
  rcases List.mem_append.mp hc with h | h
  · exact a c h
  · exact b c h
theorem join_low {zs : List Str} (h : ∀ z ∈ zs, z.length = 1 ∧ Low z) : (Txt.join "" zs).length = zs.length ∧ Low (Txt.join "" zs) := by
  refine ⟨?_, fun c hc => ?_⟩
  · rw [len_tl, join0]
    induction zs with
    | nil => rfl
    | cons a r ih =>
      rw [List.map_cons, List.flatten_cons, List.length_append, ih fun z hz => h z (List.mem_cons_of_mem _ hz), ← len_tl, (h a (List.mem_cons_self ..)).1, List.length_cons]
      omega
  · rw [join0] at hc
    obtain ⟨l, hl, hc⟩ := List.mem_flatten.mp hc
    obtain ⟨z, hz, rfl⟩ := List.mem_map.mp hl
    exact (h z hz).2 c hc
theorem sum_ones {zs : List Str} (h : ∀ z ∈ zs, z.length = 1) : (zs.map (·.length)).sum = zs.length := by
  induction zs with
  | nil => rfl
  | cons a r ih =>
    rw [List.map_cons, List.sum_cons, ih fun z hz => h z (List.mem_cons_of_mem _ hz), h a (List.mem_cons_self ..), List.length_cons]
    omega
/-- the k-th drawn name -/
def nameAt (b e : Str) (f : Nat) (k : Nat) : Str := b ++ (⟨#[97 + (f + 3 * k) % 26]⟩ : Str) ++ e
theorem nameAt_len (b e : Str) (f k : Nat) : (nameAt b e f k).length = b.length + 1 + e.length := by
  unfold nameAt; rw [len_app, len_app]; rfl
theorem nameAt_low {b e : Str} (hb : Low b) (he : Low e) (f k : Nat) : Low (nameAt b e f k) := low_app (low_app hb (low_one (Nat.mod_lt _ (by decide)))) he
theorem nameAt_inj {b e : Str} {f i j : Nat} (hi : i < 26) (hj : j < 26) (h : nameAt b e f i = nameAt b e f j) : i = j := by
  have h1 : (nameAt b e f i).cps.toList = (nameAt b e f j).cps.toList := by rw [h]
  unfold nameAt at h1
  rw [tl_app, tl_app, tl_app, tl_app] at h1
  have h2 := List.append_cancel_right h1
  have h3 := List.append_cancel_left h2
  have h4 : 97 + (f + 3 * i) % 26 = 97 + (f + 3 * j) % 26 := by
    have h3 : [97 + (f + 3 * i) % 26] = [97 + (f + 3 * j) % 26] := h3
    injection h3
  omega
theorem names_ok {b e : Str} {f m : Nat} (hb : Low b) (he : Low e) (lb : b.length ≤ 3) (le : e.length ≤ 3) (hm : m ≤ 26) : Names ((List.range m).map (nameAt b e f)) := by
  refine ⟨fun x hx => ?_, fun x hx => ?_, fun x hx => ?_, ?_⟩
  · obtain ⟨k, _, rfl⟩ := List.mem_map.mp hx
    exact nameAt_low hb he f k
  · obtain ⟨k, _, rfl⟩ := List.mem_map.mp hx
    rw [nameAt_len]; omega
  · obtain ⟨k, _, rfl⟩ := List.mem_map.mp hx
    rw [nameAt_len]; omega
  · refine List.nodup_iff_pairwise_ne.mpr (List.pairwise_map.mpr ?_)
    refine (List.nodup_iff_pairwise_ne.mp List.nodup_range).imp_of_mem ?_
    intro i j hi hj ne h
    exact ne (nameAt_inj (by have := List.mem_range.mp hi; omega) (by have := List.mem_range.mp hj; omega) h)
end J

/-! ### symbols, variables, substitutions -/
namespace J
open PySem L2
mutual
def syms : Tm → List V
  | .var n => [.int n]
  | .app f ts => .str f :: symss ts
def symss : List Tm → List V
  | [] => []
  | t :: ts => syms t ++ symss ts
end
mutual
/-- the occurrences of variables, from left to right -/
def occ : Tm → List Int
  | .var n => [n]
  | .app _ ts => occs ts
def occs : List Tm → List Int
  | [] => []
  | t :: ts => occ t ++ occs ts
end
/-- one by one, what is not there yet -/
def adds (acc : List Int) : List Int → List Int
  | [] => acc
  | n :: r => adds (if n ∈ acc then acc else acc ++ [n]) r
def vars (t : Tm) : List Int := adds [] (occ t)
theorem adds_app : ∀ (l1 l2 acc : List Int), adds acc (l1 ++ l2) = adds (adds acc l1) l2
  | [], _, _ => rfl
  | n :: r, l2, acc => by show adds _ (r ++ l2) = adds (adds _ r) l2; rw [adds_app r l2]
theorem adds_mem : ∀ (l acc : List Int) {n : Int}, n ∈ adds acc l ↔ n ∈ acc ∨ n ∈ l
  | [], acc, n => by show n ∈ acc ↔ _; simp
  | k :: r, acc, n => by
    show n ∈ adds _ r ↔ _
    rw [adds_mem r]
    by_cases h : k ∈ acc
    · rw [if_pos h, List.mem_cons]
      constructor
      · rintro (a | a)
        · exact .inl a
        · exact .inr (.inr a)
      · rintro (a | a | a)
        · exact .inl a
        · exact .inl (a ▸ h)
        · exact .inr a
    · rw [if_neg h, List.mem_append, List.mem_singleton, List.mem_cons]
      constructor
      · rintro ((a | a) | a)
        · exact .inl a
        · exact .inr (.inl a)
        · exact .inr (.inr a)
      · rintro (a | a | a)
        · exact .inl (.inl a)
        · exact .inl (.inr a)
        · exact .inr a
theorem adds_nodup : ∀ (l acc : List Int), acc.Nodup → (adds acc l).Nodup
  | [], _, h => h
  | k :: r, acc, h => by
    show (adds _ r).Nodup
    refine adds_nodup r _ ?_
    by_cases hk : k ∈ acc
    · rw [if_pos hk]; exact h
    · rw [if_neg hk]
      refine List.nodup_append.mpr ⟨h, (by simp), fun a ha b hb => ?_⟩
      rw [List.mem_singleton] at hb
      exact fun e => hk (by rw [← hb, ← e]; exact ha)
theorem adds_two : ∀ (l b acc : List Int), adds acc (adds b l) = adds (adds acc b) l
  | [], _, _ => rfl
  | n :: r, b, acc => by
    show adds acc (adds _ r) = adds _ r
    rw [adds_two r]
    by_cases h : n ∈ b
    · rw [if_pos h, if_pos ((adds_mem b acc).mpr (.inr h))]
    · rw [if_neg h, adds_app]
      rfl
theorem adds_len : ∀ (l acc : List Int), (adds acc l).length ≤ acc.length + l.length
  | [], _ => Nat.le_refl _
  | n :: r, acc => by
    have := adds_len r (if n ∈ acc then acc else acc ++ [n])
    show (adds _ r).length ≤ acc.length + (r.length + 1)
    have h2 : (if n ∈ acc then acc else acc ++ [n]).length ≤ acc.length + 1 := by
      by_cases h : n ∈ acc
      · rw [if_pos h]; omega
      · rw [if_neg h, List.length_append]; exact Nat.le_refl _
    omega
def intsOf (l : List V) : List Int := l.filterMap fun v => match v with | .int n => some n | _ => none
theorem intsOf_app (a b : List V) : intsOf (a ++ b) = intsOf a ++ intsOf b := List.filterMap_append ..
mutual
theorem ints_syms : ∀ t : Tm, intsOf (syms t) = occ t
  | .var n => rfl
  | .app f ts => by show intsOf (symss ts) = occs ts; exact ints_symss ts
theorem ints_symss : ∀ ts : List Tm, intsOf (symss ts) = occs ts
  | [] => rfl
  | t :: ts => by show intsOf (syms t ++ symss ts) = occ t ++ occs ts; rw [intsOf_app, ints_syms t, ints_symss ts]
end
mutual
theorem syms_len : ∀ t : Tm, (syms t).length = t.sz
  | .var _ => rfl
  | .app f ts => by show (symss ts).length + 1 = 1 + Tm.szs ts; rw [symss_len ts]; omega
theorem symss_len : ∀ ts : List Tm, (symss ts).length = Tm.szs ts
  | [] => rfl
  | t :: ts => by show (syms t ++ symss ts).length = t.sz + Tm.szs ts; rw [List.length_append, syms_len t, symss_len ts]
end
mutual
theorem occ_len : ∀ t : Tm, (occ t).length ≤ t.sz
  | .var _ => Nat.le_refl _
  | .app f ts => by show (occs ts).length ≤ 1 + Tm.szs ts; have := occs_len ts; omega
theorem occs_len : ∀ ts : List Tm, (occs ts).length ≤ Tm.szs ts
  | [] => Nat.le_refl _
  | t :: ts => by show (occ t ++ occs ts).length ≤ t.sz + Tm.szs ts; have := occ_len t; have := occs_len ts; rw [List.length_append]; omega
end
theorem symss_app : ∀ a b : List Tm, symss (a ++ b) = symss a ++ symss b
  | [], _ => rfl
  | t :: ts, b => by show syms t ++ symss (ts ++ b) = (syms t ++ symss ts) ++ symss b; rw [symss_app ts b, List.append_assoc]
theorem szs_app : ∀ a b : List Tm, Tm.szs (a ++ b) = Tm.szs a + Tm.szs b
  | [], _ => by show _ = 0 + _; rw [Nat.zero_add]; rfl
  | t :: ts, b => by show t.sz + Tm.szs (ts ++ b) = (t.sz + Tm.szs ts) + Tm.szs b; rw [szs_app ts b]; omega
theorem szs_rev : ∀ a : List Tm, Tm.szs a.reverse = Tm.szs a
  | [] => rfl
  | t :: ts => by
    rw [List.reverse_cons, szs_app, szs_rev ts]
    show Tm.szs ts + (t.sz + 0) = t.sz + Tm.szs ts
    omega
theorem TmsIn.rev {H : Hp} : ∀ {ts : List Tm} {vs : List V}, TmsIn H ts vs → TmsIn H ts.reverse vs.reverse
  | [], _, h => by cases (show _ = [] from h); rfl
  | t :: ts, _, ⟨v, r, rfl, h, q⟩ => by
    rw [List.reverse_cons, List.reverse_cons]
    exact TmsIn.append (TmsIn.rev q) (TmsIn.one h)
theorem TmsIn.snoc {H : Hp} {ts : List Tm} {vs : List V} {v : V} (h : TmsIn H ts vs) (e : vs[vs.length - 1]? = some v) : ∃ us t, ts = us ++ [t] ∧ TmIn H t v ∧ TmsIn H us vs.dropLast := by
  have hl := h.length
  rcases List.eq_nil_or_concat ts with z | ⟨us, t, z⟩
  · subst z
    have : vs = [] := List.length_eq_zero_iff.mp (by rw [hl]; rfl)
    subst this
    simp at e
  · rw [List.concat_eq_append] at z
    subst z
    have hn : vs ≠ [] := fun w => by rw [w] at hl; simp at hl
    have e2 : vs = vs.dropLast ++ [v] := by
      have h1 := List.dropLast_concat_getLast hn
      have h2 : vs.getLast hn = v := by
        rw [List.getLast_eq_getElem]
        have := List.getElem?_eq_some_iff.mp e
        exact this.2
      rw [h2] at h1
      exact h1.symm
    have key : ∀ (us : List Tm) (ws : List V) (t : Tm) (v : V), us.length = ws.length → TmsIn H (us ++ [t]) (ws ++ [v]) → TmIn H t v ∧ TmsIn H us ws := by
      intro us
      induction us with
      | nil =>
        intro ws t v hl q
        have : ws = [] := List.length_eq_zero_iff.mp hl.symm
        subst this
        obtain ⟨a, r, e, h1, _⟩ := q
        injection e with e _
        exact ⟨e ▸ h1, rfl⟩
      | cons u us ih =>
        intro ws t v hl q
        match ws, hl with
        | w :: ws, hl =>
          obtain ⟨a, r, e, h1, h2⟩ := q
          injection e with e1 e2
          subst e1
          have := ih ws t v (by simpa using hl) (by rw [← e2] at h2; exact h2)
          exact ⟨this.1, w, ws, rfl, h1, this.2⟩
    rw [e2] at h
    have hl2 : us.length = vs.dropLast.length := by rw [List.length_dropLast, hl, List.length_append]; simp
    have q := key us _ t v hl2 h
    exact ⟨us, t, rfl, q.1, q.2⟩
mutual
theorem Tm.dep_le_sz : ∀ t : Tm, t.dep ≤ t.sz
  | .var _ => Nat.le_refl _
  | .app _ ts => by show 1 + Tm.deps ts ≤ 1 + Tm.szs ts; have := Tm.deps_le_szs ts; omega
theorem Tm.deps_le_szs : ∀ ts : List Tm, Tm.deps ts ≤ Tm.szs ts
  | [] => Nat.le_refl _
  | t :: ts => by show max t.dep (Tm.deps ts) ≤ t.sz + Tm.szs ts; have := Tm.dep_le_sz t; have := Tm.deps_le_szs ts; omega
end
theorem occs_app : ∀ a b : List Tm, occs (a ++ b) = occs a ++ occs b
  | [], _ => rfl
  | t :: ts, b => by show occ t ++ occs (ts ++ b) = (occ t ++ occs ts) ++ occs b; rw [occs_app ts b, List.append_assoc]
theorem szs_take (ts : List Tm) (i : Nat) : Tm.szs (ts.take i) ≤ Tm.szs ts := by
  have h := szs_app (ts.take i) (ts.drop i)
  rw [List.take_append_drop] at h
  omega
theorem map_get {l : List Int} {i : Nat} {y : V} (h : (l.map V.int)[i]? = some y) : ∃ n, l[i]? = some n ∧ y = .int n := by
  rw [List.getElem?_map] at h
  cases e : l[i]? with
  | none => rw [e] at h; cases h
  | some n => rw [e] at h; exact ⟨n, rfl, (Option.some.inj h).symm⟩
theorem inV_ints (n : Int) : ∀ l : List Int, inV (.int n) (l.map V.int) = decide (n ∈ l) := by
  intro l
  unfold inV
  rw [List.any_map]
  refine Bool.eq_iff_iff.mpr ?_
  rw [List.any_eq_true, decide_eq_true_iff]
  constructor
  · rintro ⟨x, hx, e⟩
    have e : (x == n) = true := e
    rw [← eq_of_beq e]; exact hx
  · intro h
    exact ⟨n, h, beq_self_eq_true n⟩
mutual
theorem syms_kind : ∀ (t : Tm) (y : V), y ∈ syms t → (∃ n, y = .int n) ∨ ∃ f, y = .str f
  | .var n, y, h => .inl ⟨n, by simpa [syms] using h⟩
  | .app f ts, y, h => by
    rcases List.mem_cons.mp (show y ∈ V.str f :: symss ts from h) with e | h
    · exact .inr ⟨f, e⟩
    · exact symss_kind ts y h
theorem symss_kind : ∀ (ts : List Tm) (y : V), y ∈ symss ts → (∃ n, y = .int n) ∨ ∃ f, y = .str f
  | [], _, h => nomatch h
  | t :: ts, y, h => by
    rcases List.mem_append.mp (show y ∈ syms t ++ symss ts from h) with h | h
    · exact syms_kind t y h
    · exact symss_kind ts y h
end
/-- a dict of True by ints -/
def kd (l : List Int) : List (Key × V) := l.map fun n => (.inl n, .bl true)
theorem kd_val (l : List Int) (n : Int) : valV (kd l) (.inl n) = if n ∈ l then some (.bl true) else none := by
  induction l with
  | nil => rfl
  | cons a r ih =>
    by_cases h : a = n
    · subst h
      rw [if_pos (List.mem_cons_self ..)]
      exact valV_pos (p := ((.inl a : Key), V.bl true)) rfl
    · have e : ¬ ((Sum.inl a : Key) = .inl n) := fun z => h (Sum.inl.inj z)
      show valV (((.inl a : Key), V.bl true) :: kd r) (.inl n) = _
      rw [valV_neg e, ih]
      by_cases h2 : n ∈ r
      · rw [if_pos h2, if_pos (List.mem_cons_of_mem _ h2)]
      · rw [if_neg h2, if_neg fun z => (List.mem_cons.mp z).elim (fun z => h z.symm) h2]
theorem kd_put (l : List Int) (n : Int) : putK (kd l) (.inl n) (.bl true) = kd (if n ∈ l then l else l ++ [n]) := by
  by_cases h : n ∈ l
  · rw [if_pos h]
    unfold putK
    rw [if_pos (by rw [valV_any, kd_val, if_pos h]; rfl)]
    unfold kd
    rw [List.map_map]
    refine List.map_congr_left fun a _ => ?_
    show (if (Sum.inl a : Key) = .inl n then ((Sum.inl a : Key), V.bl true) else _) = _
    by_cases e : (Sum.inl a : Key) = .inl n
    · rw [if_pos e]
    · rw [if_neg e]
  · rw [if_neg h, putK_new _ (by rw [kd_val, if_neg h])]
    unfold kd
    rw [List.map_append]; rfl
theorem kd_len (l : List Int) : (kd l).length = l.length := List.length_map _

/-! substitutions -/
mutual
def sub (m : Int → Option Tm) : Tm → Tm
  | .var n => (m n).getD (.var n)
  | .app f ts => .app f (subs m ts)
def subs (m : Int → Option Tm) : List Tm → List Tm
  | [] => []
  | t :: ts => sub m t :: subs m ts
end
theorem subs_map (m : Int → Option Tm) : ∀ ts, subs m ts = ts.map (sub m)
  | [] => rfl
  | t :: ts => by show sub m t :: subs m ts = _; rw [subs_map m ts]; rfl
/-- the dict at d says what m says -/
def SbIn (H : Hp) (d : Addr) (m : Int → Option Tm) : Prop := ∃ kvs : List (Key × V), H d = some (.dK kvs) ∧ ∀ n, match m n with
  | none => valV kvs (.inl n) = none
  | some t => ∃ v, valV kvs (.inl n) = some v ∧ TmIn H t v
theorem SbIn.mono {H H' : Hp} {d : Addr} {m : Int → Option Tm} (h : SbIn H d m) (t : Tu H H') (e : ∀ kvs, H d = some (.dK kvs) → H' d = some (.dK kvs)) : SbIn H' d m := by
  obtain ⟨kvs, h1, h2⟩ := h
  refine ⟨kvs, e _ h1, fun n => ?_⟩
  have := h2 n
  cases hm : m n with
  | none => rw [hm] at this; exact this
  | some u =>
    rw [hm] at this
    obtain ⟨v, a, b⟩ := this
    exact ⟨v, a, b.tu t⟩
theorem SbIn.same {H H' : Hp} {d : Addr} {m : Int → Option Tm} (h : SbIn H d m) (s : Same H H') : SbIn H' d m := h.mono (tu_same s) fun _ e => s _ _ e
theorem SbIn.at {H : Hp} {d : Addr} {m : Int → Option Tm} (h : SbIn H d m) : ∃ kvs, H d = some (.dK kvs) := let ⟨k, e, _⟩ := h; ⟨k, e⟩
/-- d.get(n, n) -/
theorem SbIn.get {H : Hp} {d : Addr} {m : Int → Option Tm} (h : SbIn H d m) (n : Int) : ∃ o, DGet H d (.int n) o ∧ TmIn H ((m n).getD (.var n)) (o.getD (.int n)) := by
  obtain ⟨kvs, h1, h2⟩ := h
  have := h2 n
  refine ⟨valV kvs (.inl n), DGet.k (k := Sum.inl n) h1, ?_⟩
  cases hm : m n with
  | none => rw [hm] at this; rw [this]; rfl
  | some u =>
    rw [hm] at this
    obtain ⟨v, a, b⟩ := this
    rw [a]; exact b
theorem SbIn.put {H : Hp} {d : Addr} {m : Int → Option Tm} {kvs : List (Key × V)} (h1 : H d = some (.dK kvs)) (h2 : ∀ n, match m n with | none => valV kvs (.inl n) = none | some t => ∃ v, valV kvs (.inl n) = some v ∧ TmIn H t v)
    {H' : Hp} (tu : Tu H H') {k : Int} {t : Tm} {v : V} (ht : TmIn H' t v) (e : H' d = some (.dK (putK kvs (.inl k) v))) : SbIn H' d (fun n => if n = k then some t else m n) := by
  refine ⟨_, e, fun n => ?_⟩
  have := h2 n
  rw [valV_put]
  by_cases hn : n = k
  · subst hn
    simp only [if_true]
    exact ⟨v, rfl, ht⟩
  · have hn' : ¬ ((Sum.inl n : Key) = .inl k) := fun z => hn (Sum.inl.inj z)
    simp only [if_neg hn, if_neg hn']
    cases hm : m n with
    | none => rw [hm] at this; exact this
    | some u =>
      rw [hm] at this
      obtain ⟨w, a, b⟩ := this
      exact ⟨w, a, b.tu tu⟩

/-! while xs: -/
theorem while_list {K : PySem.W.Frag} {i : Nat} {tb : TS} {D : Ends} {σ : L2.St} {H : Hp} (Pv : L2.St → Hp → Prop) (μ : L2.St → Hp → Nat) (h0 : Pv σ H)
    (hs : ∀ σ H, Pv σ H → ∃ p xs, σ[i]? = some (some (.ref p)) ∧ H p = some (.lst xs) ∧ (xs = [] → D.nx σ H) ∧ (xs ≠ [] → tb { D with nx := fun σ' H' => Pv σ' H' ∧ μ σ' H' < μ σ H, ct := fun σ' H' => Pv σ' H' ∧ μ σ' H' < μ σ H, bk := D.nx } σ H)) :
    tWhile (fun σ H Q => tVar i σ H fun x H' => ∃ k, TruV K x H' k ∧ Q k H') tb D σ H := by
  refine while_by Pv μ h0 (fun σ H p => ?_) fun σ H Q Q' m ⟨v, e, k, t, q⟩ => ⟨v, e, k, t, m _ _ q⟩
  obtain ⟨a, xs, e, hp, h1, h2⟩ := hs σ H p
  refine ⟨_, e, _, .inl ⟨xs, SqL.of hp, rfl⟩, ?_⟩
  cases xs with
  | nil => exact h1 rfl
  | cons x xs => exact h2 (List.cons_ne_nil _ _)
end J

/-! ### rules of our own: a list extended by a tuple, t[:0:-1] -/
namespace J
open PySem L2 PyProof.Rows
section
open PySem PySem.Builtin
theorem ext_tup (l : Addr) (xs : Array Value) (n : Nat) (b : Addr) (ys : Array Value) (m : Nat) (d : Option Addr) (sl : Array (Option Value))
    (h0 : ¬(!xs.isEmpty && Builtin.List.listTooLong (xs.size + ys.size)) = true) (h1 : xs.size ≤ sizeLine) (h2 : xs.size + ys.size ≤ sizeLine + 1) :
    Meets (Builtin.«list.extend» ⟨[.ref l, .ref b], []⟩) (fun _ R s => s.heap.get? l = some ⟨.type "list", none, .seq xs n, #[]⟩ ∧ s.heap.get? b = some ⟨.type "tuple", d, .seq ys m, sl⟩ ∧
      R (.ok (.ret Value.none)) { s with heap := s.heap.update l (Obj.mapSeq fun x => x ++ ys), toks := s.toks }) := by
  refine .of_wp fun prog w A R s h => ?_
  obtain ⟨hp, g, dd, tk, os⟩ := s
  obtain ⟨hl, hb, h⟩ := h
  have f1 := AutoSeq1.idx_int
  have f2 := AutoSeq1.sub_tuple_tuple
  have f4 := AutoSeq1.sub_tuple_list
  have f5 := AutoSeq1.sub_list_tuple
  have f3 := AutoSeq1.sub_list_list
  have hz' : (xs ++ ys).size ≤ sizeLine + 1 := by rw [Array.size_append]; exact h2
  wp_walk using (wpAny_updateSeq hl rfl (hz := h1) (_hz' := hz')), AutoSeq1.wpAny_loadPart' hl, AutoSeq1.wpAny_loadPart' hb
  exact ⟨_, rfl, h⟩
end
def rExtT (K : PySem.W.Frag) : V → List V → Hp → VK → Prop := fun x vs H Q => ∃ l b xs zs, x = .ref l ∧ vs = [.ref b] ∧ H l = some (.lst xs) ∧ SqT K H b zs ∧ xs.length + zs.length ≤ sizeLine ∧ Q .non (upd H l (.lst (xs ++ zs)))
section
variable {X : Cx}
theorem mt_extT : MtM X "list.extend" (rExtT X.K) := by
  intro pins s σ H x vs v us Q I rx rv h
  obtain ⟨l, b, xs, zs, rfl, rfl, hH, hB, hz, q⟩ := h
  cases rx
  obtain ⟨u, rfl, ru⟩ := rv.one
  cases ru
  obtain ⟨_, its, n, r, hl, e⟩ := I.lstM hH
  obtain ⟨its2, r2, ⟨o, ho, hc, m, hd⟩, _⟩ := I.tuple hB
  have hl2 := r2.length
  obtain ⟨oc, od, oda, osl⟩ := o
  cases hc
  cases hd
  have sz : its.toArray.size + its2.toArray.size ≤ sizeLine := by rw [List.size_toArray, List.size_toArray, ← hl, ← hl2]; exact hz
  have door : ¬ (!its.toArray.isEmpty && Builtin.List.listTooLong (its.toArray.size + its2.toArray.size)) = true := by
    rw [notLongL sz, Bool.and_false]; exact Bool.false_ne_true
  refine call_meets F.slot_list_extend ⟨_, e, rfl⟩ F.entry_list_extend (F.args_list_extend_2 _ _) (ext_tup l its.toArray n b its2.toArray m od osl door (by omega) (by omega)) ⟨e, ho, ?_⟩
  refine ⟨.non, _, I.lset (its' := its ++ its2) hH e (by simp) (r.append r2) ?_, rfl, q⟩
  rw [List.length_append]; exact hz
end

/-! t[:0:-1] -/
theorem adj_rev (n : Nat) : Builtin.Slice.sliceAdjust none (some 0) (-1) ((n + 1 : Nat) : Int) = ((n : Int), 0) := by
  unfold Builtin.Slice.sliceAdjust
  simp only [show ((-1 : Int) < 0) = True from eq_true (by decide), if_true]
  have e1 : ¬ ((0 : Int) < 0) := by decide
  rw [if_neg e1]
  refine Prod.ext ?_ ?_
  · show ((n + 1 : Nat) : Int) - 1 = n
    omega
  · show min (0 : Int) (((n + 1 : Nat) : Int) - 1) = 0
    omega
theorem places_rev (n : Nat) : Builtin.Slice.slicePlaces (n : Int) 0 (-1) = n := by
  unfold Builtin.Slice.slicePlaces
  rw [if_neg (by decide : ¬ ((-1 : Int) > 0))]
  by_cases h : (n : Int) > 0
  · rw [if_pos h, show (- -1 : Int) = 1 by decide, Int.ediv_one]
    omega
  · rw [if_neg h]; omega
section
variable {prog : Program} {w : World} {A : Around} {E : Value → Shared → Prop} {s : Shared}
theorem applied_rev {sl : Addr} {vu vs : Value} {n : Nat} {Q : Int × Int × Nat → Shared → Prop} (hs : s.heap.IsSliceOf sl .none vu vs) (pu : IsPart vu (some 0)) (ps : IsPart vs (some (-1)))
    (h : Q ((n : Int), -1, n) s) : wpAny (model prog w) A (Builtin.Slice.sliceApplied (.ref sl) (pure ((n + 1 : Nat) : Int))) Q E s := by
  obtain ⟨os, hos, hcs, hds⟩ := id hs
  unfold Builtin.Slice.sliceApplied Builtin.Slice.sliceFields
  refine wpAny_bind (wpAny_bind (wpAny_field hos hds (x := .none) rfl (wpAny_bind (wpAny_field hos hds (x := vu) rfl (wpAny_bind (wpAny_field hos hds (x := vs) rfl (wpAny_pure ?_)))))))
  refine wpAny_bind (HT.slicePart_ ps ?_)
  show wpAny _ _ (if ((-1 : Int) == 0) = true then _ else _) _ _ s
  rw [if_neg (by decide)]
  refine wpAny_bind (slicePart_none (wpAny_bind (HT.slicePart_ pu (wpAny_bind (wpAny_pure ?_)))))
  show wpAny _ _ (match Builtin.Slice.sliceAdjust none (some 0) (-1) ((n + 1 : Nat) : Int) with | (lo, hi) => pure (lo, (-1 : Int), Builtin.Slice.slicePlaces lo hi (-1))) _ _ s
  rw [adj_rev]
  show wpAny _ _ (pure ((n : Int), (-1 : Int), Builtin.Slice.slicePlaces (n : Int) 0 (-1))) _ _ s
  rw [places_rev]
  exact wpAny_pure h
theorem fm_congr {α β : Type} {f g : α → Option β} : ∀ {l : List α}, (∀ k ∈ l, f k = g k) → l.filterMap f = l.filterMap g
  | [], _ => rfl
  | a :: l, h => by
    rw [List.filterMap_cons, List.filterMap_cons, h a (List.mem_cons_self ..), fm_congr fun k hk => h k (List.mem_cons_of_mem _ hk)]
theorem pick_rev (x : Value) (xs : List Value) : ((List.range xs.length).filterMap fun (k : Nat) => (x :: xs).toArray[((xs.length : Int) + (k : Int) * -1).toNat]?) = xs.reverse := by
  have e : ∀ (l : List Nat), (∀ k ∈ l, k < xs.length) → (l.filterMap fun (k : Nat) => (x :: xs).toArray[((xs.length : Int) + (k : Int) * -1).toNat]?) = l.filterMap fun k => xs[xs.length - 1 - k]? := by
    intro l hl
    refine fm_congr fun k hk => ?_
    have h1 := hl k hk
    have e1 : ((xs.length : Int) + (k : Int) * -1).toNat = (xs.length - 1 - k) + 1 := by omega
    rw [e1]
    show ((x :: xs).toArray[(xs.length - 1 - k) + 1]?) = _
    rw [List.getElem?_toArray, List.getElem?_cons_succ]
  rw [e _ fun k hk => List.mem_range.mp hk]
  have e2 : ∀ (l : List Nat), (∀ k ∈ l, k < xs.length) → (l.filterMap fun k => xs[xs.length - 1 - k]?) = l.filterMap fun k => xs.reverse[k]? := by
    intro l hl
    refine fm_congr fun k hk => ?_
    rw [List.getElem?_reverse (hl k hk)]
  rw [e2 _ fun k hk => List.mem_range.mp hk]
  have e3 : ∀ (ys : List Value), ((List.range ys.length).filterMap fun k => ys[k]?) = ys := by
    intro ys
    have := PySem.W.krv_all ys.toArray
    simpa using this
  have := e3 xs.reverse
  rwa [List.length_reverse] at this
theorem item_rev {t sl : Addr} {x : Value} {xs : List Value} {vu vs : Value} {Q : Value → Shared → Prop} (ht : IsTup s.heap t (x :: xs).toArray) (hs : s.heap.IsSliceOf sl .none vu vs) (pu : IsPart vu (some 0)) (ps : IsPart vs (some (-1)))
    (h : Q (.ref s.heap.objs.size) { s with heap := s.heap.push { cls := .type "tuple", data := .seq xs.reverse.toArray } }) (hsz : xs.length ≤ sizeLine) : wpAny (model prog w) A (getItem (.ref t) (.ref sl)) Q E s := by
  have htake : sizeOk (.seq xs.reverse.toArray) := by
    show xs.reverse.toArray.size ≤ sizeLine
    rw [List.size_toArray, List.length_reverse]; exact hsz
  obtain ⟨os, hos, hcs, hds⟩ := id hs
  have hTs : s.TypeIs (.ref sl) "slice" := ⟨os, hos, hcs⟩
  unfold getItem
  try with_reducible refine wpAny_holding ?_
  first | refine wpAny_bind (wpAny_pure ?_) | skip
  refine wpAny_bind (wpAny_sequenceKey ht.typeIs (by decide) ?_)
  refine wpAny_bind (wpAny_callSpecial?_slot (name := Str.ofString "__getitem__") ht.typeIs PyProof.Rows.slot_tuple_getitem
    (wpAny_call_entry PyProof.Rows.slot_tuple_getitem ht.typeIs entry_tuple_getitem ?_ (args_tuple_getitem _ _)))
  show wpAny _ _ (Builtin.Tuple.tupleItemsOf (.ref t) >>= _) _ _ s
  refine wpAny_bind (PyProof.Rows.tupleItemsOf_ ht ?_)
  refine wpAny_bind (wpAny_typeOf hTs ?_)
  rw [if_pos (by decide)]
  have e0 : (x :: xs).toArray.size = xs.length + 1 := by rw [List.size_toArray]; rfl
  rw [e0]
  refine wpAny_bind (applied_rev (n := xs.length) hs pu ps ?_)
  have hno : ¬ (((xs.length : Int) == 0 && ((-1 : Int) == 1) && (xs.length == xs.length + 1)) = true) := by
    intro q
    rw [Bool.and_eq_true, Bool.and_eq_true] at q
    exact absurd q.1.2 (by decide)
  show wpAny _ _ (if ((xs.length : Int) == 0 && ((-1 : Int) == 1) && (xs.length == xs.length + 1)) = true then _ else _) _ _ s
  rw [if_neg hno, pick_rev]
  first
    | exact wpAny_bind (m := Builtin.Tuple.tupleExact _) (wpAny_newObj_type (wpAny_pure ⟨_, rfl, wpAny_pure h⟩) htake)
    | exact wpAny_bind (m := Builtin.Tuple.tupleExact _) (wpAny_newObj_type (wpAny_bind (wpAny_pure (wpAny_pure ⟨_, rfl, wpAny_pure h⟩))) htake)
    | exact wpAny_bind (wpAny_bind (m := Builtin.Tuple.tupleExact _) (wpAny_newObj_type (wpAny_pure (wpAny_pure ⟨_, rfl, wpAny_pure h⟩)) htake))
    | exact wpAny_bind (wpAny_bind (m := Builtin.Tuple.tupleExact _) (wpAny_newObj_type (wpAny_pure ⟨_, rfl, wpAny_pure h⟩) htake))
end
def tRevT (K : PySem.W.Frag) (te : TE) : TE := fun σ H Q => te σ H fun x H1 => ∃ a y ys, x = .ref a ∧ SqT K H1 a (y :: ys) ∧ ∀ p, H1 p = none → Q (.ref p) (upd H1 p (.tup ys.reverse))
theorem pe_revT {X : Cx} {e : Expr} {te : TE} {k k0 : Nat} {p0 p1 p2 p3 pos : Pos} (he : PE X e te) : PE X (.Subscript e (.Slice none (some (.Constant (.int 0) k0 p0)) (some (.UnaryOp .USub (.Constant (.int 1) k p1) p2)) p3) pos) (tRevT X.K te) := by
  refine ⟨fun pins s σ H Q I h => ?_⟩
  refine Subscript_ (thn (he.run pins s σ H _ I h) fun v s1 ⟨x, H1, I1, r1, q1⟩ => ?_)
  obtain ⟨a, y, ys, ex, hx, q⟩ := q1
  subst ex
  cases r1
  have hst : PO X (some (.UnaryOp .USub (.Constant (.int 1) k p1) p2)) (tPart (tUn (rU fun i => .int (-i)) (tC (.int 1)))) := po_some (pe_un un_neg pe_int)
  have hup : PO X (some (.Constant (.int 0) k0 p0)) (tPart (tC (.int 0))) := po_some pe_int
  rw [show (Expr.Slice none (some (.Constant (.int 0) k0 p0)) (some (.UnaryOp .USub (.Constant (.int 1) k p1) p2)) p3) = Expr.Slice none (some (.Constant (.int 0) k0 p0)) (some (.UnaryOp .USub (.Constant (.int 1) k p1) p2)) p3 from rfl]
  refine wpAny_Slice (thn (po_none.run pins s1 σ H1 (fun o H2 => o = none ∧ H2 = H1) I1 ⟨rfl, rfl⟩) fun vl s2 ⟨l, H2, I2, pl, el, e2⟩ => ?_)
  subst el e2
  refine thn (hup.run pins s2 σ H2 (fun o H3 => o = some 0 ∧ H3 = H2) I2 ⟨0, rfl, rfl, rfl⟩) fun vu s3 ⟨u, H3, I3, pu, eu, e3⟩ => ?_
  subst eu e3
  refine thn (hst.run pins s3 σ H3 (fun o H4 => o = some (-1) ∧ H4 = H3) I3 ⟨1, rfl, -1, rfl, rfl, rfl⟩) fun vs s4 ⟨o, H4, I4, ps, eo, e4⟩ => ?_
  subst eo e4
  cases pl
  have I5 : Inv X pins σ H4 { s4 with heap := s4.heap.push { cls := .type "slice", data := .fields #[.none, vu, vs] } } := I4.kept (t' := s4.toks) fun b ob q => Heap.get?_push_of_some _ q
  obtain ⟨its, r, ht, hz⟩ := I5.tuple hx
  match its, r with
  | z :: zs, .cons rz rzs =>
  have hlen := rzs.length
  show wpAny (model X.prog X.w) X.A (subscriptTail e (.Slice none (some (.Constant (.int 0) k0 p0)) (some (.UnaryOp .USub (.Constant (.int 1) k p1) p2)) p3) (.ref a) (.ref s4.heap.objs.size)) (EP X pins σ Q) X.xe { s4 with heap := s4.heap.push { cls := .type "slice", data := .fields #[.none, vu, vs] } }
  refine tail_any (ops := [.ref a, .ref s4.heap.objs.size]) ht.typeIs PyProof.Rows.slot_tuple_getitem.lookup ?_ (by with_unfolding_all rfl)
  have hz' : ys.length ≤ sizeLine := by
    have : ys.length + 1 ≤ sizeLine := hz
    omega
  refine item_rev ht (Heap.IsSliceOf.new _ .none vu vs) pu ps ?_ (by rw [← hlen]; exact hz')
  refine ⟨.ref _, _, I5.laid (t' := s4.toks) (o := .tup ys.reverse) (fun b ob q => Heap.get?_push_of_some _ q) (Nat.le_refl _) ?_, rfl, q _ (I5.hok.fresh (Nat.le_refl _))⟩
  exact ⟨by rw [List.length_reverse]; exact hz', _, L2.Vals.reverse rzs, IsTup.new _ _⟩
end J

/-! ### positions -/
namespace J
open PySem L2
mutual
def poss : Tm → List (List Int)
  | .var _ => [[]]
  | .app _ ts => [] :: posss 1 ts
def posss : Nat → List Tm → List (List Int)
  | _, [] => []
  | k, t :: ts => (poss t).map (fun q => (k : Int) :: q) ++ posss (k + 1) ts
end
/-- q is a position of t -/
def IsPos : List Int → Tm → Prop
  | [], _ => True
  | k :: q, .app _ ts => 1 ≤ k ∧ ∃ t, ts[(k - 1).toNat]? = some t ∧ IsPos q t
  | _ :: _, .var _ => False
def rep (u : Tm) : List Int → Tm → Tm
  | [], _ => u
  | k :: q, .app f ts => .app f (ts.set (k - 1).toNat (rep u q (ts.getD (k - 1).toNat u)))
  | _ :: _, .var n => .var n
/-- the subterm at q -/
def at? : List Int → Tm → Option Tm
  | [], t => some t
  | k :: q, .app _ ts => if 1 ≤ k then (ts[(k - 1).toNat]?).bind (at? q) else none
  | _ :: _, .var _ => none
mutual
theorem poss_is : ∀ (t : Tm) (q : List Int), q ∈ poss t → IsPos q t ∧ q.length < t.dep
  | .var n, q, h => by
    rw [List.mem_singleton.mp (show q ∈ [[]] from h)]
    exact ⟨trivial, Nat.one_pos⟩
  | .app f ts, q, h => by
    rcases List.mem_cons.mp (show q ∈ [] :: posss 1 ts from h) with e | h
    · rw [e]; exact ⟨trivial, Tm.dep_pos (.app f ts)⟩
    · obtain ⟨j, t, r, rfl, ht, h1, h2⟩ := posss_is 1 ts q h
      have hm := Tm.dep_of_mem (List.mem_of_getElem? ht)
      refine ⟨⟨by omega, t, ?_, h1⟩, ?_⟩
      · have : (((1 + j : Nat) : Int) - 1).toNat = j := by omega
        rw [this]; exact ht
      · show r.length + 1 < 1 + Tm.deps ts
        omega
theorem posss_is : ∀ (k : Nat) (ts : List Tm) (q : List Int), q ∈ posss k ts → ∃ (j : Nat) (t : Tm) (r : List Int), q = ((k + j : Nat) : Int) :: r ∧ ts[j]? = some t ∧ IsPos r t ∧ r.length < t.dep
  | _, [], _, h => nomatch h
  | k, t :: ts, q, h => by
    rcases List.mem_append.mp (show q ∈ (poss t).map (fun q => (k : Int) :: q) ++ posss (k + 1) ts from h) with h | h
    · obtain ⟨r, hr, rfl⟩ := List.mem_map.mp h
      have := poss_is t r hr
      exact ⟨0, t, r, rfl, rfl, this.1, this.2⟩
    · obtain ⟨j, u, r, rfl, hu, h1, h2⟩ := posss_is (k + 1) ts q h
      exact ⟨j + 1, u, r, by rw [show k + 1 + j = k + (j + 1) by omega], by rw [List.getElem?_cons_succ]; exact hu, h1, h2⟩
end
mutual
theorem poss_len : ∀ t : Tm, (poss t).length = t.sz
  | .var _ => rfl
  | .app f ts => by show (posss 1 ts).length + 1 = 1 + Tm.szs ts; rw [posss_len 1 ts]; omega
theorem posss_len : ∀ (k : Nat) (ts : List Tm), (posss k ts).length = Tm.szs ts
  | _, [] => rfl
  | k, t :: ts => by
    show ((poss t).map (fun q => (k : Int) :: q) ++ posss (k + 1) ts).length = t.sz + Tm.szs ts
    rw [List.length_append, List.length_map, poss_len t, posss_len (k + 1) ts]
end
theorem posss_app : ∀ (a b : List Tm) (k : Nat), posss k (a ++ b) = posss k a ++ posss (k + a.length) b
  | [], _, _ => rfl
  | t :: ts, b, k => by
    show (poss t).map (fun q => (k : Int) :: q) ++ posss (k + 1) (ts ++ b) = ((poss t).map (fun q => (k : Int) :: q) ++ posss (k + 1) ts) ++ posss (k + (ts.length + 1)) b
    rw [posss_app ts b, List.append_assoc, show k + 1 + ts.length = k + (ts.length + 1) by omega]
/-- a list of tuples of ints -/
def PosIn (H : Hp) (p : Addr) (ps : List (List Int)) : Prop := ∃ as : List Addr, H p = some (.lst (as.map V.ref)) ∧ as.length = ps.length ∧ ∀ (k : Nat) (a : Addr) (q : List Int), as[k]? = some a → ps[k]? = some q → H a = some (.tup (q.map V.int))
theorem PosIn.get {H : Hp} {p : Addr} {ps : List (List Int)} (h : PosIn H p ps) {k : Nat} (hk : k < ps.length) : ∃ (xs : List V) (a : Addr) (q : List Int), H p = some (.lst xs) ∧ xs.length = ps.length ∧ xs[k]? = some (.ref a) ∧ ps[k]? = some q ∧ H a = some (.tup (q.map V.int)) := by
  obtain ⟨as, h1, h2, h3⟩ := h
  have hk' : k < as.length := by omega
  exact ⟨_, as[k], ps[k], h1, by rw [List.length_map, h2], by rw [List.getElem?_map, List.getElem?_eq_getElem hk']; rfl, List.getElem?_eq_getElem hk, h3 k _ _ (List.getElem?_eq_getElem hk') (List.getElem?_eq_getElem hk)⟩
theorem PosIn.mono {H H' : Hp} {p : Addr} {ps : List (List Int)} (h : PosIn H p ps) (t : Tu H H') (e : ∀ xs, H p = some (.lst xs) → H' p = some (.lst xs)) : PosIn H' p ps := by
  obtain ⟨as, h1, h2, h3⟩ := h
  exact ⟨as, e _ h1, h2, fun k a q ea eq => t _ _ (h3 k a q ea eq)⟩
theorem PosIn.same {H H' : Hp} {p : Addr} {ps : List (List Int)} (h : PosIn H p ps) (s : Same H H') : PosIn H' p ps := h.mono (tu_same s) fun _ e => s _ _ e
theorem PosIn.push {H H' : Hp} {p a : Addr} {ps : List (List Int)} {q : List Int} {as : List Addr} (h1 : H p = some (.lst (as.map V.ref))) (h2 : as.length = ps.length) (h3 : ∀ (k : Nat) (a : Addr) (q : List Int), as[k]? = some a → ps[k]? = some q → H a = some (.tup (q.map V.int)))
    (t : Tu H H') (e : H' p = some (.lst (as.map V.ref ++ [.ref a]))) (ha : H' a = some (.tup (q.map V.int))) : PosIn H' p (ps ++ [q]) := by
  refine ⟨as ++ [a], by rw [e, List.map_append]; rfl, by rw [List.length_append, List.length_append, h2]; rfl, fun k b r eb er => ?_⟩
  by_cases hk : k < as.length
  · rw [List.getElem?_append_left hk] at eb
    rw [List.getElem?_append_left (by omega)] at er
    exact t _ _ (h3 k b r eb er)
  · have h4 := (List.getElem?_eq_some_iff.mp eb).1
    rw [List.length_append, List.length_singleton] at h4
    have ek : k = as.length := by omega
    subst ek
    rw [List.getElem?_append_right (Nat.le_refl _), Nat.sub_self] at eb
    rw [List.getElem?_append_right (by omega), h2, Nat.sub_self] at er
    cases eb; cases er
    exact ha
theorem cutLo (vs : List V) (k : Nat) : cutV vs none (some (k : Int)) = vs.take k := by
  unfold cutV
  have e1 : HT.sIx vs.length 0 none = 0 := rfl
  rw [e1, HT.sIx_nat, List.drop_zero, Nat.sub_zero]
  by_cases h : k ≤ vs.length
  · rw [Nat.min_eq_left h]
  · rw [Nat.min_eq_right (by omega), List.take_of_length_le (Nat.le_refl _), List.take_of_length_le (by omega)]
theorem cutHi (vs : List V) (k : Nat) : cutV vs (some (k : Int)) none = vs.drop k := by
  unfold cutV
  have e1 : HT.sIx vs.length vs.length none = vs.length := rfl
  rw [e1, HT.sIx_nat]
  by_cases h : k ≤ vs.length
  · rw [Nat.min_eq_left h, List.take_of_length_le (by rw [List.length_drop]; exact Nat.le_refl _)]
  · rw [Nat.min_eq_right (by omega), List.drop_of_length_le (Nat.le_refl _), List.drop_of_length_le (by omega), List.take_nil]
theorem notLo {vs : List V} {k : Nat} (h : k < vs.length) : ¬ (HT.sIx vs.length 0 none = 0 ∧ HT.sIx vs.length vs.length (some (k : Int)) = vs.length) := fun z => by
  rw [HT.sIx_nat] at z
  have := z.2
  omega
theorem notHi {vs : List V} {k : Nat} (h : 1 ≤ k) (hv : 1 ≤ vs.length) : ¬ (HT.sIx vs.length 0 (some (k : Int)) = 0 ∧ HT.sIx vs.length vs.length none = vs.length) := fun z => by
  rw [HT.sIx_nat] at z
  have := z.1
  omega
theorem TmsIn.take {H : Hp} : ∀ {ts : List Tm} {vs : List V} (k : Nat), TmsIn H ts vs → TmsIn H (ts.take k) (vs.take k)
  | [], _, k, h => by cases (show _ = [] from h); cases k <;> rfl
  | _ :: _, _, 0, _ => rfl
  | t :: ts, _, k + 1, ⟨v, r, rfl, h, q⟩ => ⟨v, r.take k, rfl, h, TmsIn.take k q⟩
theorem TmsIn.drop {H : Hp} : ∀ {ts : List Tm} {vs : List V} (k : Nat), TmsIn H ts vs → TmsIn H (ts.drop k) (vs.drop k)
  | [], _, k, h => by cases (show _ = [] from h); cases k <;> rfl
  | _ :: _, _, 0, h => h
  | t :: ts, _, k + 1, ⟨v, r, rfl, h, q⟩ => TmsIn.drop k q
theorem set_cut {α : Type} {l : List α} {k : Nat} {x : α} (h : k < l.length) : l.set k x = l.take k ++ [x] ++ l.drop (k + 1) := by
  rw [List.set_eq_take_append_cons_drop, if_pos h, List.append_assoc]; rfl
/-- sizes and depths behind a replacement -/
theorem rep_dep (u : Tm) : ∀ (q : List Int) (t : Tm), IsPos q t → (rep u q t).dep ≤ max t.dep (q.length + u.dep) ∧ (rep u q t).sz ≤ t.sz + u.sz
  | [], t, _ => ⟨by show u.dep ≤ _; have := t.dep_pos; simp; omega, by show u.sz ≤ _; omega⟩
  | k :: q, .var n, h => h.elim
  | k :: q, .app f ts, ⟨h1, t, ht, hp⟩ => by
    have ih := rep_dep u q t hp
    have e : ts.getD (k - 1).toNat u = t := by rw [List.getD_eq_getElem?_getD, ht]; rfl
    have hk : (k - 1).toNat < ts.length := (List.getElem?_eq_some_iff.mp ht).1
    have hd : ∀ (l : List Tm) (j : Nat) (x : Tm) (M : Nat), Tm.deps l ≤ M → x.dep ≤ M → Tm.deps (l.set j x) ≤ M := by
      intro l
      induction l with
      | nil => intro j x M h _; exact h
      | cons a r ih =>
        intro j x M h hx
        have h : max a.dep (Tm.deps r) ≤ M := h
        cases j with
        | zero => show max x.dep (Tm.deps r) ≤ M; omega
        | succ j => show max a.dep (Tm.deps (r.set j x)) ≤ M; have := ih j x M (by omega) hx; omega
    have hs : ∀ (l : List Tm) (j : Nat) (x y : Tm), l[j]? = some y → Tm.szs (l.set j x) + y.sz = Tm.szs l + x.sz := by
      intro l
      induction l with
      | nil => intro j x y h; simp at h
      | cons a r ih =>
        intro j x y h
        cases j with
        | zero =>
          have h : a = y := by simpa using h
          subst h
          show x.sz + Tm.szs r + a.sz = a.sz + Tm.szs r + x.sz
          omega
        | succ j =>
          have := ih j x y (by simpa using h)
          show a.sz + Tm.szs (r.set j x) + y.sz = a.sz + Tm.szs r + x.sz
          omega
    have hm := Tm.dep_of_mem (List.mem_of_getElem? ht)
    refine ⟨?_, ?_⟩
    · show 1 + Tm.deps (ts.set (k - 1).toNat (rep u q (ts.getD (k - 1).toNat u))) ≤ max (1 + Tm.deps ts) (q.length + 1 + u.dep)
      rw [e]
      have := hd ts (k - 1).toNat (rep u q t) (max (Tm.deps ts) (q.length + u.dep)) (by omega) (by omega)
      omega
    · show 1 + Tm.szs (ts.set (k - 1).toNat (rep u q (ts.getD (k - 1).toNat u))) ≤ 1 + Tm.szs ts + u.sz
      rw [e]
      have := hs ts (k - 1).toNat (rep u q t) t ht
      omega
theorem at_cons_app {k : Int} {q : List Int} {f : Str} {ts : List Tm} : at? (k :: q) (.app f ts) = if 1 ≤ k then (ts[(k - 1).toNat]?).bind (at? q) else none := rfl
theorem at_app : ∀ (a b : List Int) (t : Tm), at? (a ++ b) t = (at? a t).bind (at? b)
  | [], _, _ => rfl
  | k :: a, b, .var _ => rfl
  | k :: a, b, .app f ts => by
    show at? (k :: (a ++ b)) (.app f ts) = _
    rw [at_cons_app, at_cons_app]
    by_cases h : 1 ≤ k
    · rw [if_pos h, if_pos h]
      cases ts[(k - 1).toNat]? with
      | none => rfl
      | some t => exact at_app a b t
    · rw [if_neg h, if_neg h]; rfl
theorem isPos_at : ∀ (q : List Int) (t : Tm), IsPos q t ↔ ∃ u, at? q t = some u
  | [], t => ⟨fun _ => ⟨t, rfl⟩, fun _ => trivial⟩
  | k :: q, .var _ => ⟨fun h => h.elim, fun ⟨_, h⟩ => nomatch h⟩
  | k :: q, .app f ts => by
    rw [at_cons_app]
    constructor
    · rintro ⟨h1, t, ht, hp⟩
      obtain ⟨u, hu⟩ := (isPos_at q t).mp hp
      exact ⟨u, by rw [if_pos h1, ht]; exact hu⟩
    · rintro ⟨u, hu⟩
      by_cases h : 1 ≤ k
      · rw [if_pos h] at hu
        cases e : ts[(k - 1).toNat]? with
        | none => rw [e] at hu; cases hu
        | some t => rw [e] at hu; exact ⟨h, t, e, (isPos_at q t).mpr ⟨u, hu⟩⟩
      · rw [if_neg h] at hu; cases hu
theorem isPos_app (a b : List Int) (t : Tm) : IsPos (a ++ b) t ↔ ∃ u, at? a t = some u ∧ IsPos b u := by
  rw [isPos_at, at_app]
  constructor
  · rintro ⟨w, hw⟩
    cases e : at? a t with
    | none => rw [e] at hw; cases hw
    | some u => rw [e] at hw; exact ⟨u, rfl, (isPos_at b u).mpr ⟨w, hw⟩⟩
  · rintro ⟨u, hu, hb⟩
    rw [hu]
    exact (isPos_at b u).mp hb
theorem isPos_take {q : List Int} {t : Tm} (h : IsPos q t) (i : Nat) : ∃ u, at? (q.take i) t = some u := by
  have := (isPos_app (q.take i) (q.drop i) t).mp (by rw [List.take_append_drop]; exact h)
  obtain ⟨u, hu, _⟩ := this
  exact ⟨u, hu⟩
/-- a child -/
theorem isPos_one {k : Int} {t : Tm} : IsPos [k] t ↔ ∃ f ts u, t = .app f ts ∧ 1 ≤ k ∧ ts[(k - 1).toNat]? = some u := by
  cases t with
  | var n => exact ⟨fun h => h.elim, fun ⟨_, _, _, h, _⟩ => nomatch h⟩
  | app f ts => exact ⟨fun ⟨h1, u, hu, _⟩ => ⟨f, ts, u, rfl, h1, hu⟩, fun ⟨_, _, u, e, h1, hu⟩ => by cases e; exact ⟨h1, u, hu, trivial⟩⟩
theorem at_step {q : List Int} {t w : Tm} {i : Nat} {k : Int} (hk : q[i]? = some k) (hw : at? (q.take i) t = some w) : at? (q.take (i + 1)) t = at? [k] w := by
  rw [list_take_succ hk, at_app, hw]; rfl
/-- put in, and take out -/
theorem at_rep (u : Tm) : ∀ (q : List Int) (t : Tm), IsPos q t → at? q (rep u q t) = some u
  | [], _, _ => rfl
  | k :: q, .var _, h => h.elim
  | k :: q, .app f ts, ⟨h1, t, ht, hp⟩ => by
    have hk := (List.getElem?_eq_some_iff.mp ht).1
    have e : ts.getD (k - 1).toNat u = t := by rw [List.getD_eq_getElem?_getD, ht]; rfl
    show at? (k :: q) (.app f (ts.set (k - 1).toNat (rep u q (ts.getD (k - 1).toNat u)))) = _
    rw [at_cons_app, if_pos h1, List.getElem?_set_self hk, e]
    exact at_rep u q t hp
theorem isPos_rep {u : Tm} {q : List Int} {t : Tm} (h : IsPos q t) : IsPos q (rep u q t) := (isPos_at q _).mpr ⟨u, at_rep u q t h⟩
theorem rep_back (u s : Tm) : ∀ (q : List Int) (t : Tm), at? q t = some s → rep s q (rep u q t) = t
  | [], t, h => (Option.some.inj h).symm
  | k :: q, .var _, h => nomatch h
  | k :: q, .app f ts, h => by
    rw [at_cons_app] at h
    by_cases h1 : 1 ≤ k
    · rw [if_pos h1] at h
      cases ht : ts[(k - 1).toNat]? with
      | none => rw [ht] at h; cases h
      | some t =>
        rw [ht] at h
        have hk := (List.getElem?_eq_some_iff.mp ht).1
        have e : ts.getD (k - 1).toNat u = t := by rw [List.getD_eq_getElem?_getD, ht]; rfl
        have ih := rep_back u s q t h
        show Tm.app f ((ts.set (k - 1).toNat (rep u q (ts.getD (k - 1).toNat u))).set (k - 1).toNat (rep s q ((ts.set (k - 1).toNat (rep u q (ts.getD (k - 1).toNat u))).getD (k - 1).toNat s))) = _
        have e2 : (ts.set (k - 1).toNat (rep u q (ts.getD (k - 1).toNat u))).getD (k - 1).toNat s = rep u q t := by
          rw [List.getD_eq_getElem?_getD, List.getElem?_set_self hk, e]; rfl
        rw [e2, ih, List.set_set, ← (List.getElem?_eq_some_iff.mp ht).2, List.set_getElem_self]
    · rw [if_neg h1] at h; cases h
theorem rep_step {u w c : Tm} {q : List Int} {k : Int} {i : Nat} {t : Tm} (hk : q[i]? = some k) (hw : at? (q.take i) t = some w) (hc : at? (q.take (i + 1)) t = some c) :
    ∃ f ts, w = .app f ts ∧ 1 ≤ k ∧ ts[(k - 1).toNat]? = some c ∧ rep u (q.drop i) w = .app f (ts.set (k - 1).toNat (rep u (q.drop (i + 1)) c)) := by
  rw [at_step hk hw] at hc
  obtain ⟨f, ts, c', rfl, h1, h2⟩ := isPos_one.mp ((isPos_at [k] w).mpr ⟨c, hc⟩)
  have hi := (List.getElem?_eq_some_iff.mp hk)
  rw [at_cons_app, if_pos h1, h2] at hc
  have hc : some c' = some c := hc
  cases hc
  refine ⟨f, ts, rfl, h1, h2, ?_⟩
  have e : q.drop i = k :: q.drop (i + 1) := by
    obtain ⟨hi, rfl⟩ := hi
    exact (List.drop_eq_getElem_cons hi)
  rw [e]
  show Tm.app f (ts.set (k - 1).toNat (rep u (q.drop (i + 1)) (ts.getD (k - 1).toNat u))) = _
  rw [List.getD_eq_getElem?_getD, h2]; rfl
theorem at_sz : ∀ (q : List Int) (t u : Tm), at? q t = some u → u.sz ≤ t.sz ∧ u.dep ≤ t.dep
  | [], t, u, h => by cases (show some t = some u from h); exact ⟨Nat.le_refl _, Nat.le_refl _⟩
  | k :: q, .var _, _, h => nomatch h
  | k :: q, .app f ts, u, h => by
    rw [at_cons_app] at h
    by_cases h1 : 1 ≤ k
    · rw [if_pos h1] at h
      cases ht : ts[(k - 1).toNat]? with
      | none => rw [ht] at h; cases h
      | some t =>
        rw [ht] at h
        have ih := at_sz q t u h
        have hm := List.mem_of_getElem? ht
        have h2 := Tm.dep_of_mem hm
        have h3 := Tm.sz_arg hm
        exact ⟨by show u.sz ≤ 1 + Tm.szs ts; omega, by show u.dep ≤ 1 + Tm.deps ts; omega⟩
    · rw [if_neg h1] at h; cases h
/-- pairs of a position and a term, on a stack -/
def PairIn (H : Hp) (v : V) (x : List Int × Tm) : Prop := ∃ (b c : Addr) (u : V), v = .ref b ∧ H b = some (.tup [.ref c, u]) ∧ H c = some (.tup (x.1.map V.int)) ∧ TmIn H x.2 u
def StkIn (H : Hp) (ws : List V) (S : List (List Int × Tm)) : Prop := ws.length = S.length ∧ ∀ (k : Nat) (v : V) (x : List Int × Tm), ws[k]? = some v → S[k]? = some x → PairIn H v x
theorem PairIn.tu {H H' : Hp} {v : V} {x : List Int × Tm} (h : PairIn H v x) (t : Tu H H') : PairIn H' v x := by
  obtain ⟨b, c, u, rfl, h1, h2, h3⟩ := h
  exact ⟨b, c, u, rfl, t _ _ h1, t _ _ h2, h3.tu t⟩
theorem StkIn.tu {H H' : Hp} {ws : List V} {S : List (List Int × Tm)} (h : StkIn H ws S) (t : Tu H H') : StkIn H' ws S := ⟨h.1, fun k v x e1 e2 => (h.2 k v x e1 e2).tu t⟩
theorem StkIn.snoc {H : Hp} {ws : List V} {S : List (List Int × Tm)} (h : StkIn H ws S) {v : V} {x : List Int × Tm} (hv : PairIn H v x) : StkIn H (ws ++ [v]) (S ++ [x]) := by
  refine ⟨by rw [List.length_append, List.length_append, h.1]; rfl, fun k u y e1 e2 => ?_⟩
  by_cases hk : k < ws.length
  · rw [List.getElem?_append_left hk] at e1
    rw [List.getElem?_append_left (by have := h.1; omega)] at e2
    exact h.2 k u y e1 e2
  · have h4 := (List.getElem?_eq_some_iff.mp e1).1
    rw [List.length_append, List.length_singleton] at h4
    have ek : k = ws.length := by omega
    subst ek
    rw [List.getElem?_append_right (Nat.le_refl _), Nat.sub_self] at e1
    rw [List.getElem?_append_right (by have := h.1; omega), h.1, Nat.sub_self] at e2
    cases e1; cases e2
    exact hv
theorem StkIn.pop {H : Hp} {ws : List V} {S : List (List Int × Tm)} (h : StkIn H ws S) (n : ws ≠ []) : ∃ v S' x, ws[ws.length - 1]? = some v ∧ S = S' ++ [x] ∧ PairIn H v x ∧ StkIn H ws.dropLast S' := by
  have l := h.1
  have hw : 0 < ws.length := List.length_pos_iff.mpr n
  have hS : S ≠ [] := fun z => by rw [z] at l; simp at l; exact n l
  obtain ⟨S', x, rfl⟩ : ∃ S' x, S = S' ++ [x] := ⟨S.dropLast, S.getLast hS, (List.dropLast_concat_getLast hS).symm⟩
  rw [List.length_append, List.length_singleton] at l
  have hl : ws.length - 1 < ws.length := by omega
  have e1 := List.getElem?_eq_getElem hl
  refine ⟨_, S', x, e1, rfl, h.2 _ _ x e1 (by rw [List.getElem?_append_right (by omega), show ws.length - 1 - S'.length = 0 by omega]; rfl), by rw [List.length_dropLast]; omega, fun k v y g1 g2 => ?_⟩
  rw [List.getElem?_dropLast] at g1
  by_cases hk : k < ws.length - 1
  · rw [if_pos hk] at g1
    exact h.2 k v y g1 (by rw [List.getElem?_append_left (by omega)]; exact g2)
  · rw [if_neg hk] at g1; cases g1
def posOf : List (List Int × Tm) → List (List Int)
  | [] => []
  | x :: r => (poss x.2).map (fun z => x.1 ++ z) ++ posOf r
def kids (q : List Int) : Nat → List Tm → List (List Int × Tm)
  | _, [] => []
  | k, t :: ts => (q ++ [(k : Int)], t) :: kids q (k + 1) ts
def szOf (S : List (List Int × Tm)) : Nat := (S.map fun x => x.2.sz).sum
theorem posOf_app (a b : List (List Int × Tm)) : posOf (a ++ b) = posOf a ++ posOf b := by
  induction a with
  | nil => rfl
  | cons x a ih => show (poss x.2).map (fun z => x.1 ++ z) ++ posOf (a ++ b) = _; rw [ih, ← List.append_assoc]; rfl
theorem posOf_len (a : List (List Int × Tm)) : (posOf a).length = szOf a := by
  induction a with
  | nil => rfl
  | cons x a ih => show ((poss x.2).map (fun z => x.1 ++ z) ++ posOf a).length = x.2.sz + szOf a; rw [List.length_append, List.length_map, poss_len, ih]
theorem szOf_app (a b : List (List Int × Tm)) : szOf (a ++ b) = szOf a + szOf b := by unfold szOf; rw [List.map_append, List.sum_append]
theorem szOf_rev (a : List (List Int × Tm)) : szOf a.reverse = szOf a := by
  induction a with
  | nil => rfl
  | cons x a ih =>
    rw [List.reverse_cons, szOf_app, ih]
    show szOf a + (x.2.sz + 0) = x.2.sz + szOf a
    omega
theorem len_szOf (a : List (List Int × Tm)) : a.length ≤ szOf a := by
  induction a with
  | nil => exact Nat.le_refl _
  | cons x a ih => have := x.2.sz_pos; show a.length + 1 ≤ x.2.sz + szOf a; omega
theorem posOf_kids (q : List Int) : ∀ (ts : List Tm) (k : Nat), posOf (kids q k ts) = (posss k ts).map (fun z => q ++ z)
  | [], _ => rfl
  | t :: ts, k => by
    show (poss t).map (fun z => (q ++ [(k : Int)]) ++ z) ++ posOf (kids q (k + 1) ts) = ((poss t).map (fun z => (k : Int) :: z) ++ posss (k + 1) ts).map (fun z => q ++ z)
    rw [posOf_kids q ts, List.map_append, List.map_map]
    congr 1
    refine List.map_congr_left fun z _ => ?_
    show (q ++ [(k : Int)]) ++ z = q ++ ((k : Int) :: z)
    rw [List.append_assoc]; rfl
theorem kids_len (q : List Int) : ∀ (ts : List Tm) (k : Nat), (kids q k ts).length = ts.length
  | [], _ => rfl
  | _ :: ts, k => congrArg (· + 1) (kids_len q ts (k + 1))
theorem kids_get (q : List Int) : ∀ (ts : List Tm) (k i : Nat) (t : Tm), ts[i]? = some t → (kids q k ts)[i]? = some (q ++ [((k + i : Nat) : Int)], t)
  | [], _, _, _, h => by simp at h
  | _ :: _, k, 0, _, h => by cases h; rfl
  | _ :: ts, k, i + 1, t, h => by
    have := kids_get q ts (k + 1) i t h
    rw [show k + 1 + i = k + (i + 1) by omega] at this
    exact this
theorem kids_sz (q : List Int) : ∀ (ts : List Tm) (k : Nat), szOf (kids q k ts) = Tm.szs ts
  | [], _ => rfl
  | t :: ts, k => by show t.sz + szOf (kids q (k + 1) ts) = t.sz + Tm.szs ts; rw [kids_sz q ts]
theorem rep_wf {fs : List Str} {B : Int} {u : Tm} (wu : u.wf fs B) : ∀ (q : List Int) (t : Tm), t.wf fs B → IsPos q t → (rep u q t).wf fs B
  | [], _, _, _ => wu
  | _ :: _, .var _, _, h => h.elim
  | k :: q, .app f ts, w, ⟨h1, t, ht, hp⟩ => by
    obtain ⟨⟨i, i1, i2⟩, w⟩ := (show (∃ k, fs[k]? = some f ∧ ts.length = ar k) ∧ Tm.wfs fs B ts from w)
    have e : ts.getD (k - 1).toNat u = t := by rw [List.getD_eq_getElem?_getD, ht]; rfl
    have ih := rep_wf wu q t (Tm.wf_of_mem w (List.mem_of_getElem? ht)) hp
    show (∃ k', fs[k']? = some f ∧ (ts.set (k - 1).toNat (rep u q (ts.getD (k - 1).toNat u))).length = ar k') ∧ Tm.wfs fs B (ts.set (k - 1).toNat (rep u q (ts.getD (k - 1).toNat u)))
    rw [e]
    refine ⟨⟨i, i1, by rw [List.length_set]; exact i2⟩, Tm.wfs_of fun x hx => ?_⟩
    rcases List.mem_or_eq_of_mem_set hx with h | h
    · exact Tm.wf_of_mem w h
    · rw [h]; exact ih
end J

/-! ### canonical forms -/
namespace J
open PySem L2
/-- the place of n in u, counted from k -/
def ix : Nat → List Int → Int → Option Nat
  | _, [], _ => none
  | k, a :: r, n => if a = n then some k else ix (k + 1) r n
/-- the dict that numbers u from k on -/
def knf : Nat → List Int → List (Key × V)
  | _, [] => []
  | k, a :: r => (.inl a, .int (k : Int)) :: knf (k + 1) r
def rnm (u : List Int) : Int → Option Tm := fun n => (ix 0 u n).map fun (k : Nat) => Tm.var (k : Int)
theorem knf_val : ∀ (u : List Int) (k : Nat) (n : Int), valV (knf k u) (.inl n) = (ix k u n).map fun (j : Nat) => V.int (j : Int)
  | [], _, _ => rfl
  | a :: r, k, n => by
    by_cases h : a = n
    · subst h
      show valV (((.inl a : Key), V.int (k : Int)) :: knf (k + 1) r) (.inl a) = (if a = a then some k else _).map _
      rw [if_pos rfl]
      exact valV_pos (p := ((.inl a : Key), V.int (k : Int))) rfl
    · have e : ¬ ((Sum.inl a : Key) = .inl n) := fun z => h (Sum.inl.inj z)
      show valV (((.inl a : Key), V.int (k : Int)) :: knf (k + 1) r) (.inl n) = (if a = n then some k else ix (k + 1) r n).map _
      rw [if_neg h, valV_neg e, knf_val r]
theorem knf_len : ∀ (u : List Int) (k : Nat), (knf k u).length = u.length
  | [], _ => rfl
  | _ :: r, k => by show (knf (k + 1) r).length + 1 = r.length + 1; rw [knf_len r]
theorem ix_none : ∀ (u : List Int) (k : Nat) (n : Int), ix k u n = none ↔ n ∉ u
  | [], _, n => by show none = none ↔ _; simp
  | a :: r, k, n => by
    show (if a = n then some k else ix (k + 1) r n) = none ↔ _
    by_cases h : a = n
    · rw [if_pos h]; subst h; simp
    · rw [if_neg h, ix_none r, List.mem_cons, not_or]
      exact ⟨fun z => ⟨fun w => h w.symm, z⟩, fun z => z.2⟩
theorem knf_snoc : ∀ (u : List Int) (k : Nat) (n : Int), knf k (u ++ [n]) = knf k u ++ [(.inl n, .int ((k + u.length : Nat) : Int))]
  | [], _, _ => rfl
  | a :: r, k, n => by
    show ((.inl a : Key), V.int (k : Int)) :: knf (k + 1) (r ++ [n]) = ((.inl a : Key), V.int (k : Int)) :: (knf (k + 1) r ++ _)
    rw [knf_snoc r, show k + 1 + r.length = k + (a :: r).length by rw [List.length_cons]; omega]
theorem knf_put {u : List Int} {n : Int} (h : n ∉ u) : putK (knf 0 u) (.inl n) (.int (u.length : Int)) = knf 0 (u ++ [n]) := by
  rw [putK_new _ (by rw [knf_val, (ix_none u 0 n).mpr h]; rfl), knf_snoc, Nat.zero_add]
theorem rnm_in {H : Hp} {d : Addr} {u : List Int} (h : H d = some (.dK (knf 0 u))) : SbIn H d (rnm u) := by
  refine ⟨_, h, fun n => ?_⟩
  unfold rnm
  rw [knf_val]
  cases ix 0 u n with
  | none => rfl
  | some k => exact ⟨_, rfl, rfl⟩
def both (l r : Tm) : List Int := adds [] (vars l ++ vars r)
def canon (l r : Tm) : Tm × Tm := (sub (rnm (both l r)) l, sub (rnm (both l r)) r)
/-- variables renamed by g -/
def ren (g : Int → Int) (t : Tm) : Tm := sub (fun n => some (.var (g n))) t
theorem vars_mem (t : Tm) (n : Int) : n ∈ vars t ↔ n ∈ occ t := by
  unfold vars
  rw [adds_mem]
  simp
theorem both_mem (l r : Tm) (n : Int) : n ∈ both l r ↔ n ∈ occ l ∨ n ∈ occ r := by
  unfold both
  rw [adds_mem, List.mem_append, vars_mem, vars_mem]
  simp
theorem both_occ (l r : Tm) : both l r = adds [] (occ l ++ occ r) := by
  unfold both vars
  rw [adds_app, adds_app, adds_two, adds_two]
  rfl
mutual
theorem occ_sub (m : Int → Option Tm) (g : Int → Int) : ∀ t : Tm, (∀ n ∈ occ t, m n = some (.var (g n))) → occ (sub m t) = (occ t).map g
  | .var n, h => by
    show occ ((m n).getD (.var n)) = _
    rw [h n (List.mem_singleton.mpr rfl)]; rfl
  | .app f ts, h => by show occs (subs m ts) = (occs ts).map g; exact occs_sub m g ts h
theorem occs_sub (m : Int → Option Tm) (g : Int → Int) : ∀ ts : List Tm, (∀ n ∈ occs ts, m n = some (.var (g n))) → occs (subs m ts) = (occs ts).map g
  | [], _ => rfl
  | t :: ts, h => by
    show occ (sub m t) ++ occs (subs m ts) = (occ t ++ occs ts).map g
    rw [occ_sub m g t fun n hn => h n (List.mem_append.mpr (.inl hn)), occs_sub m g ts fun n hn => h n (List.mem_append.mpr (.inr hn)), List.map_append]
end
theorem adds_map (g : Int → Int) : ∀ (l acc : List Int), (∀ a ∈ acc ++ l, ∀ b ∈ acc ++ l, g a = g b → a = b) → adds (acc.map g) (l.map g) = (adds acc l).map g
  | [], _, _ => rfl
  | n :: r, acc, inj => by
    show adds (if g n ∈ acc.map g then acc.map g else acc.map g ++ [g n]) (r.map g) = (adds (if n ∈ acc then acc else acc ++ [n]) r).map g
    by_cases h : n ∈ acc
    · rw [if_pos h, if_pos (List.mem_map.mpr ⟨n, h, rfl⟩)]
      exact adds_map g r acc fun a ha b hb => inj a (by simp at ha ⊢; rcases ha with z | z <;> simp [z]) b (by simp at hb ⊢; rcases hb with z | z <;> simp [z])
    · have h2 : g n ∉ acc.map g := fun z => by
        obtain ⟨a, ha, e⟩ := List.mem_map.mp z
        have := inj a (List.mem_append.mpr (.inl ha)) n (by simp) e
        exact h (this ▸ ha)
      rw [if_neg h, if_neg h2]
      have e : acc.map g ++ [g n] = (acc ++ [n]).map g := by rw [List.map_append]; rfl
      rw [e]
      exact adds_map g r (acc ++ [n]) fun a ha b hb => inj a (by rw [List.append_assoc] at ha; exact ha) b (by rw [List.append_assoc] at hb; exact hb)
theorem ix_map (g : Int → Int) : ∀ (u : List Int) (k : Nat) (n : Int), (∀ a ∈ u, g a = g n → a = n) → ix k (u.map g) (g n) = ix k u n
  | [], _, _, _ => rfl
  | a :: r, k, n, inj => by
    show (if g a = g n then some k else ix (k + 1) (r.map g) (g n)) = (if a = n then some k else ix (k + 1) r n)
    by_cases h : a = n
    · rw [if_pos h, if_pos (by rw [h])]
    · rw [if_neg h, if_neg fun z => h (inj a (List.mem_cons_self ..) z)]
      exact ix_map g r (k + 1) n fun b hb => inj b (List.mem_cons_of_mem _ hb)
mutual
theorem sub_ren (m m' : Int → Option Tm) (g : Int → Int) (v : Int → Option Tm) : ∀ t : Tm, (∀ n ∈ occ t, v n = some (.var (g n)) ∧ ((m' (g n)).getD (.var (g n))) = ((m n).getD (.var n))) → sub m' (sub v t) = sub m t
  | .var n, h => by
    obtain ⟨h1, h2⟩ := h n (List.mem_singleton.mpr rfl)
    show sub m' ((v n).getD (.var n)) = (m n).getD (.var n)
    rw [h1, ← h2]; rfl
  | .app f ts, h => by show Tm.app f (subs m' (subs v ts)) = .app f (subs m ts); rw [subs_ren m m' g v ts h]
theorem subs_ren (m m' : Int → Option Tm) (g : Int → Int) (v : Int → Option Tm) : ∀ ts : List Tm, (∀ n ∈ occs ts, v n = some (.var (g n)) ∧ ((m' (g n)).getD (.var (g n))) = ((m n).getD (.var n))) → subs m' (subs v ts) = subs m ts
  | [], _ => rfl
  | t :: ts, h => by
    show sub m' (sub v t) :: subs m' (subs v ts) = sub m t :: subs m ts
    rw [sub_ren m m' g v t fun n hn => h n (List.mem_append.mpr (.inl hn)), subs_ren m m' g v ts fun n hn => h n (List.mem_append.mpr (.inr hn))]
end
/-- renaming does not change the canonical form -/
theorem canon_ren {l r : Tm} (v : Int → Option Tm) (g : Int → Int) (hv : ∀ n, n ∈ occ l ∨ n ∈ occ r → v n = some (.var (g n)))
    (inj : ∀ a b, (a ∈ occ l ∨ a ∈ occ r) → (b ∈ occ l ∨ b ∈ occ r) → g a = g b → a = b) : canon (sub v l) (sub v r) = canon l r := by
  have e : both (sub v l) (sub v r) = (both l r).map g := by
    rw [both_occ, both_occ, occ_sub v g l fun n hn => hv n (.inl hn), occ_sub v g r fun n hn => hv n (.inr hn), ← List.map_append]
    exact adds_map g _ [] fun a ha b hb => inj a b (List.mem_append.mp ha) (List.mem_append.mp hb)
  unfold canon
  rw [e]
  have key : ∀ n, n ∈ occ l ∨ n ∈ occ r → ((rnm ((both l r).map g) (g n)).getD (.var (g n))) = ((rnm (both l r) n).getD (.var n)) := by
    intro n hn
    unfold rnm
    rw [ix_map g _ 0 n fun a ha => inj a n ((both_mem l r a).mp ha) hn]
    cases h : ix 0 (both l r) n with
    | none => exact absurd ((both_mem l r n).mpr hn) ((ix_none _ _ _).mp h)
    | some k => rfl
  rw [sub_ren (rnm (both l r)) _ g v l fun n hn => ⟨hv n (.inl hn), key n (.inl hn)⟩, sub_ren (rnm (both l r)) _ g v r fun n hn => ⟨hv n (.inr hn), key n (.inr hn)⟩]
theorem ix_lt : ∀ (u : List Int) (k : Nat) (n : Int) (j : Nat), ix k u n = some j → k ≤ j ∧ u[j - k]? = some n
  | [], _, _, _, h => nomatch h
  | a :: r, k, n, j, h => by
    have h : (if a = n then some k else ix (k + 1) r n) = some j := h
    by_cases e : a = n
    · rw [if_pos e] at h; cases h
      exact ⟨Nat.le_refl _, by rw [Nat.sub_self, e]; rfl⟩
    · rw [if_neg e] at h
      have := ix_lt r (k + 1) n j h
      refine ⟨by omega, ?_⟩
      rw [show j - k = (j - (k + 1)) + 1 by omega, List.getElem?_cons_succ]
      exact this.2
theorem canon_twice (l r : Tm) : canon (canon l r).1 (canon l r).2 = canon l r := by
  let g : Int → Int := fun n => match ix 0 (both l r) n with | some k => (k : Int) | none => n
  have some_of : ∀ n, n ∈ occ l ∨ n ∈ occ r → ∃ k, ix 0 (both l r) n = some k := fun n hn => by
    cases h : ix 0 (both l r) n with
    | none => exact absurd ((both_mem l r n).mpr hn) ((ix_none _ _ _).mp h)
    | some k => exact ⟨k, rfl⟩
  refine canon_ren (rnm (both l r)) g (fun n hn => ?_) fun a b ha hb e => ?_
  · obtain ⟨k, hk⟩ := some_of n hn
    show (ix 0 (both l r) n).map (fun (k : Nat) => Tm.var (k : Int)) = some (Tm.var (match ix 0 (both l r) n with | some k => (k : Int) | none => n))
    rw [hk]; rfl
  · obtain ⟨k, hk⟩ := some_of a ha
    obtain ⟨j, hj⟩ := some_of b hb
    have e : (match ix 0 (both l r) a with | some k => (k : Int) | none => a) = (match ix 0 (both l r) b with | some k => (k : Int) | none => b) := e
    rw [hk, hj] at e
    have e : (k : Int) = (j : Int) := e
    have h1 := (ix_lt _ _ _ _ hk).2
    have h2 := (ix_lt _ _ _ _ hj).2
    have : k = j := by omega
    rw [this] at h1
    rw [h1] at h2
    exact Option.some.inj h2
mutual
theorem sz_sub_var (m : Int → Option Tm) (hm : ∀ n t, m n = some t → t.sz = 1 ∧ t.dep = 1) : ∀ t : Tm, (sub m t).sz = t.sz ∧ (sub m t).dep = t.dep
  | .var n => by
    show ((m n).getD (.var n)).sz = 1 ∧ ((m n).getD (.var n)).dep = 1
    cases h : m n with
    | none => exact ⟨rfl, rfl⟩
    | some t => exact hm n t h
  | .app f ts => by
    have := szs_sub_var m hm ts
    exact ⟨by show 1 + Tm.szs (subs m ts) = 1 + Tm.szs ts; rw [this.1], by show 1 + Tm.deps (subs m ts) = 1 + Tm.deps ts; rw [this.2]⟩
theorem szs_sub_var (m : Int → Option Tm) (hm : ∀ n t, m n = some t → t.sz = 1 ∧ t.dep = 1) : ∀ ts : List Tm, Tm.szs (subs m ts) = Tm.szs ts ∧ Tm.deps (subs m ts) = Tm.deps ts
  | [] => ⟨rfl, rfl⟩
  | t :: ts => by
    have h1 := sz_sub_var m hm t
    have h2 := szs_sub_var m hm ts
    exact ⟨by show (sub m t).sz + Tm.szs (subs m ts) = t.sz + Tm.szs ts; rw [h1.1, h2.1], by show max (sub m t).dep (Tm.deps (subs m ts)) = max t.dep (Tm.deps ts); rw [h1.2, h2.2]⟩
end
theorem rnm_var (u : List Int) (n : Int) (t : Tm) (h : rnm u n = some t) : t.sz = 1 ∧ t.dep = 1 := by
  unfold rnm at h
  cases e : ix 0 u n with
  | none => rw [e] at h; cases h
  | some k => rw [e] at h; cases h; exact ⟨rfl, rfl⟩
mutual
theorem occ_wf {fs : List Str} {B : Int} : ∀ t : Tm, t.wf fs B → ∀ n ∈ occ t, 0 ≤ n ∧ n < B
  | .var k, w, n, h => by rw [List.mem_singleton.mp h]; exact w
  | .app f ts, w, n, h => occs_wf ts w.2 n h
theorem occs_wf {fs : List Str} {B : Int} : ∀ ts : List Tm, Tm.wfs fs B ts → ∀ n ∈ occs ts, 0 ≤ n ∧ n < B
  | [], _, _, h => nomatch h
  | t :: ts, w, n, h => by
    rcases List.mem_append.mp (show n ∈ occ t ++ occs ts from h) with h | h
    · exact occ_wf t w.1 n h
    · exact occs_wf ts w.2 n h
end
end J

/-! ### errors of the program's own classes -/
namespace J
open PySem L2 PyProof.Rows
def veB : List Value := [.type "ValueError", .type "Exception", .type "BaseException", .type "object"]
/-- an error class without an __init__ of its own -/
structure ErrC (K : PySem.W.Frag) (mg : Str → Option Value) (x : Str) (C : Addr) : Prop where
  gC : mg x = some (.ref C)
  kC : PySem.W.keepIn K (.ref C) = true
  xC : PySem.W.excIn K C [.type "ValueError", .type "Exception", .type "BaseException", .type "object"] "ValueError.__new__" = true
  bC : PySem.W.subIn K (.ref C) (.type "BaseException") = some true
  tC : PySem.W.typeIn K (.ref C) = some (.type "type")
  eC : PySem.W.exmOne K (.ref C) (.ref C) = some true
  dC : ExcC K C
theorem err_mk {K : PySem.W.Frag} {h : Heap} {mg : Str → Option Value} {x : Str} {C : Addr} (X : K.In h) (G : h.Ns mainGlobals mg)
    (a : PySem.W.nsIn K mainGlobals x = some (some (.ref C))) (k : PySem.W.keepIn K (.ref C) = true) (e : PySem.W.excIn K C [.type "ValueError", .type "Exception", .type "BaseException", .type "object"] "ValueError.__new__" = true)
    (b : PySem.W.subIn K (.ref C) (.type "BaseException") = some true) (t : PySem.W.typeIn K (.ref C) = some (.type "type")) (s : PySem.W.subIn K (.ref C) (.ref C) = some true)
    (hg : PySem.W.findIn K (.ref C) "__getattribute__" = some (some (.builtin "BaseException.__getattribute__"))) (hk : PySem.W.findIn K (.ref C) "__getattr__" = some none) (hd : PySem.W.hasDictIn K C = true)
    (ha : PySem.W.findIn K (.ref C) "__class__" = some (some (.builtin "object.__class__"))) (hn : PySem.W.specialIn K (.builtin "object.__class__") "__get__" = some (some (.builtin "getset_descriptor.__get__")))
    (ht : PySem.W.takesIn K (.builtin "object.__class__") = some true) (hm : PySem.W.mroIn K C (.type "object") = some true) : ErrC K mg x C :=
  ⟨PySem.W.mg_of X G a, k, e, b, t, PySem.W.exm_ref b hd t s, ⟨hg, hk, b, hd, ha, hn, ht, hm⟩⟩
section
variable {X : Cx} {C : Addr} {bmB : List Value} {B newId initId : String}
/-- X() -/
theorem pmk_own0 {x : Str} {p pos : Pos} (F : ExcBaseFacts B newId initId bmB) (q : PySem.W.excIn X.K C bmB newId = true) (gC : X.mg x = some (.ref C)) (kC : PySem.W.keepIn X.K (.ref C) = true) (r : Raises X (.ref C)) (hg : Gl X x)
    (hdb : (x == ("__debug__" : Str)) = false := by decide) : PMk X (.Call (.Name x p) [] [] pos) (fun _ H Q => Q (.ref C) none H) := by
  intro pins s σ H Q I h
  refine wpAny_Call_Name_kw (ld_glob I hg gC ?_ hdb)
  refine PySem.W.callWith_K0 I.kIn kC ?_
  show wpAny _ _ (call (.ref C) []) _ _ _
  obtain ⟨bm, N, nm, qn, bs, hdct, sn, sub, ab, col, dd, k0, k1, k2, k3, k5, mN, hC, hN, hni, T⟩ := exc_obj I.kIn q
  refine wpAny_call_exc_subT F T hC hN hni (fun h' e hm => ?_) (by show 0 ≤ sizeLine; omega)
  exact mk_of I hm r h (I.hok.gone hm.new)
theorem pss_assume {p : Prop} {sts : List Stmt} {t : TS} (h : p → PSs X sts t) : PSs X sts (fun D σ H => p ∧ t D σ H) := ⟨fun pins s σ H D I ⟨hp, q⟩ => (h hp).run pins s σ H D I q⟩
/-- a call that lets nothing out -/
theorem no_raise {X : Cx} (σ : L2.St) : PassesAt (L2.CX X.prog X.w) X σ (fun _ _ _ => False) := fun _ _ _ _ _ _ c => by
  obtain ⟨_, _, _, _, _, _, _, _, _, _, _, _, h⟩ := c
  exact h.elim
end
end J

/-! ### range(i, j, -1) in a for -/
namespace J
open PySem L2
theorem down_ok {n : Nat} (h : n ≤ 1000000) : RgC ((n : Int) - 1) (-1) (-1) n := by
  have := RgC.neg (i := (n : Int) - 1) (j := -1) (by omega) (by omega) (by decide) (by decide)
  have e : ((n : Int) - 1 - (-1)).toNat = n := by omega
  rw [e] at this
  exact this
theorem down0_ok {n : Nat} (h : n ≤ 1000000) : RgC (n : Int) 0 (-1) n := by
  have := RgC.neg (i := (n : Int)) (j := 0) (by omega) (by omega) (by decide) (by decide)
  have e : ((n : Int) - 0).toNat = n := by omega
  rw [e] at this
  exact this
theorem catA {K : PySem.W.Frag} {H : Hp} {a b : Addr} {xs ys : List V} {Q : VK} (ha : H a = some (.tup xs)) (hb : H b = some (.tup ys)) (hy : ys ≠ []) (hl : xs.length + ys.length ≤ sizeLine) (k : ∀ p H', Same H H' → H' p = some (.tup (xs ++ ys)) → Q (.ref p) H') : rCatA K (.ref a) (.ref b) H Q := by
  refine ⟨a, b, xs, ys, rfl, rfl, SqT.of ha, SqT.of hb, hl, fun z => ?_, fun _ z => absurd z hy, fun _ _ p hp => ?_⟩
  · refine k b H (Same.refl _) ?_
    rw [z]; exact hb
  · exact k p _ (al_same hp rfl) upd_same
/-- the slots, written out anew -/
theorem at_state {t : TS} {D : Ends} {σ σ' : L2.St} {H : Hp} (e : σ = σ') (h : t D σ' H) : t D σ H := e ▸ h
theorem catB {K : PySem.W.Frag} {H : Hp} {a b : Addr} {xs ys : List V} {Q : VK} (ha : H a = some (.tup xs)) (hb : H b = some (.tup ys)) (hl : xs.length + ys.length ≤ sizeLine) (k : ∀ p H', Same H H' → H' p = some (.tup (xs ++ ys)) → Q (.ref p) H') : rCatA K (.ref a) (.ref b) H Q := by
  refine ⟨a, b, xs, ys, rfl, rfl, SqT.of ha, SqT.of hb, hl, fun z => ?_, fun _ z => ?_, fun _ _ p hp => ?_⟩
  · refine k b H (Same.refl _) ?_
    rw [z]; exact hb
  · refine k a H (Same.refl _) ?_
    rw [z, List.append_nil]; exact ha
  · exact k p _ (al_same hp rfl) upd_same
end J

/-! ### repr of data; a promise that holds while no repr is under way -/
namespace J
open PySem PySem.Spec PyProof.Rows L2
section
variable {P : Program} {w : World} {K : PySem.W.Frag} {mg : Str → Option Value} {base : Heap}
/-- the promise of a def, asked for only where nothing is being shown -/
structure Quiet (P : Program) (w : World) (K : PySem.W.Frag) (mg : Str → Option Value) (base : Heap) (k : Nat) (f : Addr) (fd : FuncData) (ps : List Str) (sp : Sp) : Prop where
  len : ∀ vs H Q E, sp vs H Q E → vs.length = ps.length
  run : ∀ (A : Around) (outer : List Env) (s : Shared) (H : Hp) (args : Args) (us : List Value) (vs : List V) (Q : VK) (E : XK), A.guards = some [] → Room k A → Env0 P w K mg base A outer s H → BindsTo s fd args (ps.zip us) → Vals vs us →
    sp vs H Q E → codeAny (model P w) A (.call (.ref f) args) (CR CX0 outer P w H s Q E) s
theorem quiet_of {x qual : Str} {st : Stmt} {f : Addr} {fd : FuncData} {N ps : List Str} {k : Nat} {sp : Sp} (F : Fun K x qual st f fd) (S : FnScope N ps (defScope st)) (len : ∀ vs H Q E, sp vs H Q E → vs.length = ps.length)
    (hbody : ∀ (cdv : Value) (A : Around) (outer : List Env) (s : Shared) (H : Hp) (vs : List V) (Q : VK) (E : XK), A.guards = some [] → Room k (A.deeper (envOfC qual (defScope st) s.heap.objs.size f cdv)) → sp vs H Q E →
      ∃ t, PSs (cxOf CX0 P w K mg base N qual (defScope st) f cdv A outer s H E).nox (defBody st) t ∧ t { nx := fun _ H' => Q .non H', rt := Q } (start N vs) H) : Quiet P w K mg base (k + 1) f fd ps sp := by
  obtain ⟨oc, od, kV, doc, pm, an, cdv, ct, osl, rfl, lk, hcd⟩ := F.ex
  refine ⟨len, fun A outer s H args us vs Q E hg hr e0 hb rv hsp => ?_⟩
  obtain ⟨t, ht, hq⟩ := hbody cdv A outer s H vs Q E hg (hr.deeper _) hsp
  have KX : K.In s.heap := e0.mod.kin.keeps fun b o e => (e0.bs b o e).1
  have par : ∀ y ∈ ps.zip us, (defScope st).names.lookup y.1 = some .local ∨ ((defScope st).names.lookup y.1 = some .cell ∧ ((cellsFrom (s.heap.objs.size + 1) (defScope st).names []).lookup y.1).isSome = true) := fun y hy =>
    (S.par y.1 (List.of_mem_zip (a := y.1) (b := y.2) hy).1).imp id fun q => ⟨q, PySem.W.cellsFrom_some _ _ _ (.inl q)⟩
  refine codeAny_call_function hr.depth (KX _ _ lk) rfl S.co S.gen rfl (PySem.W.codeRec_of KX hcd) (hb _ _ _ _ (wpAny_newFunctionEnv_cells S.kind par fun env he s1 x => ?_))
  subst he
  refine ⟨(e0.mod.nolimit.keeps fun b o e => (e0.bs b o e).1).keeps x.toInCall.keep, codeAny_func ?_⟩
  refine wpAny_mono (ht.nox.run [] s1 (start N vs) H _ (inv_start S hr.hd e0 (len _ _ _ _ hsp) rv x) hq) (fun fl s' hs => ?_) fun e s' hs => hs
  match fl, hs with
  | .ret u, ⟨v, σ', H', J, r, q⟩ => exact ⟨v, H', J.os, J.bare, J.base, J.hok, r, q⟩
  | .next, ⟨σ', H', J, q⟩ => exact ⟨.non, H', J.os, J.bare, J.base, J.hok, rfl, q⟩
  | .brk, ⟨_, _, _, q⟩ => exact q.elim
  | .cont, ⟨_, _, _, q⟩ => exact q.elim
end
section
variable {X : Cx} {k : Nat} {f : Addr} {fd : FuncData} {ps : List Str} {sp : Sp}
theorem quiet_run {pins : List (Addr × Obj)} {σ : L2.St} {H : Hp} {s : Shared} {Q : VK} {us : List Value} {vs : List V} (F : Quiet X.prog X.w X.K X.mg X.base k f fd ps sp) (hq : X.A.guards = some []) (hr : Room k X.A) (hb : Binds X.K fd ps [])
    (I : Inv X pins σ H s) (r : Vals vs us) (h : sp (vs ++ []) H Q E0) : wpAny (model X.prog X.w) X.A (call (.ref f) us) (EP X pins σ Q) X.xe s := by
  have r2 : Vals (vs ++ []) (us ++ []) := r.append .nil
  refine wpAny_call (codeAny_mono (F.run X.A X.stack s H ⟨us, []⟩ (us ++ []) (vs ++ []) Q E0 hq hr I.env0 (hb s us I.kIn (by rw [← r2.length]; exact F.len _ _ _ _ h)) r2 h) fun r s' z => ?_)
  match r, z with
  | .error _, z => exact z.elim
  | .ok (.ret u), z => exact I.after z
  | .ok .next, z => exact z.elim
  | .ok .brk, z => exact z.elim
  | .ok .cont, z => exact z.elim
theorem pe_callQ {x : Str} {p pos : Pos} {e : Expr} {es : List Expr} {t : TA} (F : Quiet X.prog X.w X.K X.mg X.base k f fd ps sp) (hq : X.A.guards = some []) (hr : Room k X.A) (hg : Gl X x) (hm : X.mg x = some (.ref f)) (hk : PySem.W.keepIn X.K (.ref f) = true) (hb : Binds X.K fd ps [])
    (ha : PA X (e :: es) t) (hdb : (x == ("__debug__" : Str)) = false := by decide) (he : starEach (e :: es) X.env = (false, eval e X.env) :: starEach es X.env := by rfl) (hpl : (backTo pos (starEach es X.env)).any (·.1) = false := by rfl) :
    PE X (.Call (.Name x p) (e :: es) [] pos) (tCall sp [] E0 t) :=
  ⟨fun pins s σ H Q I h => wpAny_Call_Name_kw (ld_glob I hg hm (PySem.W.callWith_K (h₀ := X.base) I.ok.mod.kin hk (thn (ha.run pos pins s σ H _ I h) fun us s1 ⟨vs, H1, I1, r, q⟩ => ⟨I1.kIn, quiet_run F hq hr hb I1 r q⟩) he hpl) hdb)⟩
/-- repr of lists and tuples -/
def rShow (X : Cx) : List V → Hp → VK → Prop := fun xs H Q => X.A.guards = some [] ∧ ∃ a d, xs = [.ref a] ∧ Dp X.K H (.ref a) d ∧ d.showable = true ∧ d.hasDict = false ∧ d.depth ≤ 60 ∧ d.shown.length ≤ sizeLine ∧ Q (.str d.shown) H
theorem call_show (hu : X.A.units + 64 < cLine) : CallR X (.builtin "repr") (rShow X) := by
  intro pins s σ H xs us Q I r h
  obtain ⟨hg, a, d, rfl, hd, hs, hn, hp, hz, q⟩ := h
  cases r with
  | cons r rr =>
    cases rr
    cases r
    obtain ⟨as, rd⟩ := Dp.reads I d _ _ hd rfl
    exact repr_of_reads' rd hs (fun z => by rw [hn] at z; cases z) hg (by omega) (fun _ _ e => e) (fun h' u tk hk => ⟨.str d.shown, H, I.kept hk, ⟨u, rfl⟩, q⟩) hz
end
end J

/-! ### data that may be shown -/
namespace J
open PySem L2
structure Shw (D B : Nat) (d : PyData) : Prop where
  sh : d.showable = true
  nd : d.hasDict = false
  dp : d.depth ≤ D
  ln : d.shown.length ≤ B
theorem Shw.mono {D B D' B' : Nat} {d : PyData} (h : Shw D B d) (h1 : D ≤ D') (h2 : B ≤ B') : Shw D' B' d := ⟨h.sh, h.nd, Nat.le_trans h.dp h1, Nat.le_trans h.ln h2⟩
theorem shw_all {D B : Nat} : ∀ {ds : List PyData}, (∀ d ∈ ds, Shw D B d) → PyData.showableAll ds = true ∧ PyData.hasDictAll ds = false ∧ PyData.depthAll ds ≤ D ∧ ((PyData.shownAll ds).map (·.length)).sum ≤ B * ds.length ∧ (PyData.shownAll ds).length = ds.length
  | [], _ => ⟨rfl, rfl, Nat.zero_le _, Nat.zero_le _, rfl⟩
  | d :: ds, h => by
    obtain ⟨a, b, c, e, f⟩ := shw_all fun x hx => h x (List.mem_cons_of_mem _ hx)
    obtain ⟨h1, h2, h3, h4⟩ := h d (List.mem_cons_self ..)
    refine ⟨by show (d.showable && PyData.showableAll ds) = true; rw [h1, a]; rfl, by show (d.hasDict || PyData.hasDictAll ds) = false; rw [h2, b]; rfl, by show max d.depth (PyData.depthAll ds) ≤ D; omega, ?_, congrArg (· + 1) f⟩
    show d.shown.length + ((PyData.shownAll ds).map (·.length)).sum ≤ B * (ds.length + 1)
    rw [Nat.mul_add, Nat.mul_one]; omega
theorem shw_list {D B : Nat} {ds : List PyData} (h : ∀ d ∈ ds, Shw D B d) : Shw (D + 1) ((B + 2) * ds.length + 3) (.list ds) := by
  obtain ⟨a, b, c, e, f⟩ := shw_all h
  refine ⟨a, b, Nat.succ_le_succ c, ?_⟩
  have := listText_len_le (PyData.shownAll ds)
  rw [f] at this
  refine Nat.le_trans this ?_
  rw [Nat.add_mul]; omega
theorem shw_tuple {D B : Nat} {ds : List PyData} (h : ∀ d ∈ ds, Shw D B d) : Shw (D + 1) ((B + 2) * ds.length + 3) (.tuple ds) := by
  obtain ⟨a, b, c, e, f⟩ := shw_all h
  refine ⟨a, b, Nat.succ_le_succ c, ?_⟩
  have := tupleText_len_le (PyData.shownAll ds)
  rw [f] at this
  refine Nat.le_trans this ?_
  rw [Nat.add_mul]; omega
theorem log_of_lt {n k : Nat} (h : n < 2 ^ k) (hk : 0 < k) : n.log2 < k := by
  by_cases z : n = 0
  · subst z; exact hk
  · exact (Nat.log2_lt z).mpr h
theorem shw_int {i : Int} (h : i.natAbs < 10 ^ 12) : Shw 0 13 (.int i) := by
  refine ⟨?_, rfl, Nat.le_refl _, PyData.shown_int_le h⟩
  show decide (i.natAbs.log2 < 1920) = true
  refine decide_eq_true (Nat.lt_trans (log_of_lt (k := 40) (Nat.lt_trans h (by decide)) (by decide)) (by decide))
theorem shw_str {x : Str} (h : ∀ c ∈ x.cps.toList, c < 16 ^ 8) : Shw 0 (10 * x.length + 2) (.str x) := ⟨rfl, rfl, Nat.le_refl _, StrLaws.reprText_len x h⟩
theorem dp_ints {K : PySem.W.Frag} {H : Hp} : ∀ q : List Int, DpAll K H (q.map V.int) (q.map PyData.int)
  | [] => .nil
  | _ :: q => .cons (.int _) (dp_ints q)
theorem dp_all {K : PySem.W.Frag} {H : Hp} : ∀ {vs : List V} {ds : List PyData}, vs.length = ds.length → (∀ (k : Nat) v d, vs[k]? = some v → ds[k]? = some d → Dp K H v d) → DpAll K H vs ds
  | [], [], _, _ => .nil
  | [], _ :: _, h, _ => nomatch h
  | _ :: _, [], h, _ => nomatch h
  | v :: vs, d :: ds, h, f => .cons (f 0 v d rfl rfl) (dp_all (Nat.succ.inj h) fun k v d e1 e2 => f (k + 1) v d e1 e2)
end J

/-! ### repr of a table of terms -/
namespace J
open PySem PySem.Spec PyProof.Rows L2
mutual
def tmD : Tm → PyData
  | .var n => .int n
  | .app f ts => .tuple (.str f :: tmDs ts)
def tmDs : List Tm → List PyData
  | [] => []
  | t :: ts => tmD t :: tmDs ts
end
/-- the table at its entries, in their order -/
def TbIn (H : Hp) : List (Key × V) → List (Int × Tm) → Prop
  | [], [] => True
  | kv :: r, x :: l => kv.1 = .inl x.1 ∧ TmIn H x.2 kv.2 ∧ TbIn H r l
  | _, _ => False
def tbD (l : List (Int × Tm)) : PyData := .dict (l.map fun x => (.int x.1, tmD x.2))
section
variable {X : Cx} {pins : List (Addr × Obj)} {σ : L2.St} {H : Hp} {s : Shared}
mutual
theorem tm_reads (I : Inv X pins σ H s) : ∀ (t : Tm) (v : V) (u : Value), TmIn H t v → RelV v u → Reads s.heap u (tmD t) []
  | .var n, v, u, h, r => by
    cases (show v = .int n from h)
    obtain ⟨t, rfl⟩ := r
    exact Reads.int n t
  | .app f ts, v, u, h, r => by
    obtain ⟨a, vs, rfl, ha, hts⟩ := h
    cases (show u = .ref a from r)
    obtain ⟨its, rv, ⟨o, e, hc, n, hd⟩, _⟩ := I.tuple (SqT.of ha)
    refine Reads.tuple e hc hd ?_
    cases rv with
    | cons r1 rr =>
      obtain ⟨tk, rfl⟩ := r1
      exact ReadsAll.cons (as := []) (Reads.str f tk) (tms_reads I ts vs _ hts rr)
theorem tms_reads (I : Inv X pins σ H s) : ∀ (ts : List Tm) (vs : List V) (us : List Value), TmsIn H ts vs → Vals vs us → ReadsAll s.heap us (tmDs ts) []
  | [], vs, us, h, r => by
    cases (show vs = [] from h)
    cases r
    exact ReadsAll.nil
  | t :: ts, vs, us, h, r => by
    obtain ⟨v, w, rfl, h1, h2⟩ := h
    cases r with
    | cons r1 rr => exact ReadsAll.cons (as := []) (tm_reads I t v _ h1 r1) (tms_reads I ts w _ h2 rr)
end
end
mutual
theorem tmD_shw {fs : List Str} {B : Int} (hn : Names fs) (hB : B ≤ 1000) : ∀ t : Tm, t.wf fs B → (tmD t).showable = true ∧ (tmD t).hasDict = false ∧ (tmD t).depth ≤ t.dep ∧ (tmD t).shown.length + 10 ≤ 90 * t.sz
  | .var n, w => by
    have w : 0 ≤ n ∧ n < B := w
    have h := shw_int (i := n) (Nat.lt_trans (show n.natAbs < 10000 by omega) (by decide))
    have := h.ln
    exact ⟨h.sh, h.nd, Nat.zero_le _, by show (PyData.int n).shown.length + 10 ≤ 90 * 1; omega⟩
  | .app f ts, w => by
    obtain ⟨⟨k, hk, _⟩, w⟩ := (show (∃ k, fs[k]? = some f ∧ ts.length = ar k) ∧ Tm.wfs fs B ts from w)
    have hf := List.mem_of_getElem? hk
    have h1 := hn.hi f hf
    have h2 := shw_str (x := f) fun c hc => Nat.lt_of_le_of_lt (hn.low f hf c hc).2 (by decide)
    obtain ⟨a, b, c, d, e⟩ := tmDs_shw hn hB ts w
    refine ⟨by show ((PyData.str f).showable && PyData.showableAll (tmDs ts)) = true; rw [h2.sh, a]; rfl, by show ((PyData.str f).hasDict || PyData.hasDictAll (tmDs ts)) = false; rw [h2.nd, b]; rfl, ?_, ?_⟩
    · show max (PyData.str f).depth (PyData.depthAll (tmDs ts)) + 1 ≤ 1 + Tm.deps ts
      have : (PyData.str f).depth = 0 := rfl
      omega
    · have h3 := tupleText_len_le (PyData.shownAll (.str f :: tmDs ts))
      have h4 := h2.ln
      have e1 : ((PyData.shownAll (.str f :: tmDs ts)).map (·.length)).sum = (PyData.str f).shown.length + ((PyData.shownAll (tmDs ts)).map (·.length)).sum := rfl
      have e2 : (PyData.shownAll (.str f :: tmDs ts)).length = (PyData.shownAll (tmDs ts)).length + 1 := rfl
      show (tupleText (PyData.shownAll (.str f :: tmDs ts))).length + 10 ≤ 90 * (1 + Tm.szs ts)
      omega
theorem tmDs_shw {fs : List Str} {B : Int} (hn : Names fs) (hB : B ≤ 1000) : ∀ ts : List Tm, Tm.wfs fs B ts → PyData.showableAll (tmDs ts) = true ∧ PyData.hasDictAll (tmDs ts) = false ∧ PyData.depthAll (tmDs ts) ≤ Tm.deps ts ∧ ((PyData.shownAll (tmDs ts)).map (·.length)).sum + 10 * ts.length ≤ 90 * Tm.szs ts ∧ (PyData.shownAll (tmDs ts)).length = ts.length
  | [], _ => ⟨rfl, rfl, Nat.zero_le _, Nat.zero_le _, rfl⟩
  | t :: ts, w => by
    obtain ⟨a, b, c, d⟩ := tmD_shw hn hB t w.1
    obtain ⟨a', b', c', d', e'⟩ := tmDs_shw hn hB ts w.2
    refine ⟨by show ((tmD t).showable && PyData.showableAll (tmDs ts)) = true; rw [a, a']; rfl, by show ((tmD t).hasDict || PyData.hasDictAll (tmDs ts)) = false; rw [b, b']; rfl, ?_, ?_, congrArg (· + 1) e'⟩
    · show max (tmD t).depth (PyData.depthAll (tmDs ts)) ≤ max t.dep (Tm.deps ts); omega
    · show (tmD t).shown.length + ((PyData.shownAll (tmDs ts)).map (·.length)).sum + 10 * (ts.length + 1) ≤ 90 * (t.sz + Tm.szs ts)
      omega
end
theorem tbD_shw {fs : List Str} {B : Int} (hn : Names fs) (hB : B ≤ 1000) : ∀ l : List (Int × Tm), (∀ x ∈ l, x.1.natAbs < 10000 ∧ x.2.wf fs B ∧ x.2.sz ≤ 1000 ∧ x.2.dep ≤ 50) →
    PyData.showableKv (l.map fun x => (PyData.int x.1, tmD x.2)) = true ∧ PyData.depthKv (l.map fun x => (PyData.int x.1, tmD x.2)) ≤ 50 ∧ ((PyData.shownKv (l.map fun x => (PyData.int x.1, tmD x.2))).map (·.length)).sum ≤ 90100 * l.length ∧ (PyData.shownKv (l.map fun x => (PyData.int x.1, tmD x.2))).length = l.length
  | [], _ => ⟨rfl, Nat.zero_le _, Nat.zero_le _, rfl⟩
  | x :: l, h => by
    obtain ⟨a, b, c, d⟩ := tbD_shw hn hB l fun y hy => h y (List.mem_cons_of_mem _ hy)
    obtain ⟨h1, h2, h3, h4⟩ := h x (List.mem_cons_self ..)
    have hi := shw_int (i := x.1) (Nat.lt_trans h1 (by decide))
    obtain ⟨s1, _, s3, s4⟩ := tmD_shw hn hB x.2 h2
    refine ⟨by show ((PyData.int x.1).showable && (tmD x.2).showable && PyData.showableKv _) = true; rw [hi.sh, s1, a]; rfl, ?_, ?_, congrArg (· + 1) d⟩
    · show max (max (PyData.int x.1).depth (tmD x.2).depth) (PyData.depthKv _) ≤ 50
      have : (PyData.int x.1).depth = 0 := rfl
      omega
    · show ((PyData.int x.1).shown ++ ": " ++ (tmD x.2).shown).length + ((PyData.shownKv (l.map fun x => (PyData.int x.1, tmD x.2))).map (·.length)).sum ≤ 90100 * (l.length + 1)
      rw [len_app, len_app]
      have e : (": " : Str).length = 2 := by decide +kernel
      have := hi.ln
      omega
theorem TbIn.length {H : Hp} : ∀ {kvs : List (Key × V)} {l : List (Int × Tm)}, TbIn H kvs l → kvs.length = l.length
  | [], [], _ => rfl
  | [], _ :: _, h => h.elim
  | _ :: _, [], h => h.elim
  | _ :: _, _ :: _, h => congrArg (· + 1) (TbIn.length h.2.2)
theorem TbIn.tu {H H' : Hp} (t : Tu H H') : ∀ {kvs : List (Key × V)} {l : List (Int × Tm)}, TbIn H kvs l → TbIn H' kvs l
  | [], [], _ => trivial
  | [], _ :: _, h => h.elim
  | _ :: _, [], h => h.elim
  | _ :: _, _ :: _, h => ⟨h.1, h.2.1.tu t, TbIn.tu t h.2.2⟩
theorem TbIn.snoc {H : Hp} {n : Int} {t : Tm} {v : V} (ht : TmIn H t v) : ∀ {kvs : List (Key × V)} {l : List (Int × Tm)}, TbIn H kvs l → TbIn H (kvs ++ [(.inl n, v)]) (l ++ [(n, t)])
  | [], [], _ => ⟨rfl, ht, trivial⟩
  | [], _ :: _, h => h.elim
  | _ :: _, [], h => h.elim
  | _ :: _, _ :: _, h => ⟨h.1, h.2.1, TbIn.snoc ht h.2.2⟩
def look : List (Int × Tm) → Int → Option Tm
  | [], _ => none
  | x :: l, n => if x.1 = n then some x.2 else look l n
theorem TbIn.val {H : Hp} (n : Int) : ∀ {kvs : List (Key × V)} {l : List (Int × Tm)}, TbIn H kvs l → match look l n with
    | none => valV kvs (.inl n) = none
    | some t => ∃ v, valV kvs (.inl n) = some v ∧ TmIn H t v
  | [], [], _ => rfl
  | [], _ :: _, h => h.elim
  | _ :: _, [], h => h.elim
  | kv :: r, x :: l, h => by
    by_cases e : x.1 = n
    · rw [show look (x :: l) n = some x.2 from if_pos e]
      exact ⟨kv.2, valV_pos (by rw [h.1, e]), h.2.1⟩
    · rw [show look (x :: l) n = look l n from if_neg e, valV_neg (by rw [h.1]; exact fun z => e (Sum.inl.inj z))]
      exact TbIn.val n h.2.2
theorem TbIn.sb {H : Hp} {d : Addr} {kvs : List (Key × V)} {l : List (Int × Tm)} (h : H d = some (.dK kvs)) (t : TbIn H kvs l) : SbIn H d (look l) := ⟨kvs, h, fun n => t.val n⟩
theorem look_mem {n : Int} {t : Tm} : ∀ {l : List (Int × Tm)}, look l n = some t → (n, t) ∈ l
  | [], h => nomatch h
  | x :: l, h => by
    by_cases e : x.1 = n
    · rw [show look (x :: l) n = some x.2 from if_pos e] at h
      cases h
      rw [← e]; exact List.mem_cons_self ..
    · rw [show look (x :: l) n = look l n from if_neg e] at h
      exact List.mem_cons_of_mem _ (look_mem h)
theorem look_none {n : Int} : ∀ {l : List (Int × Tm)}, (∀ x ∈ l, x.1 ≠ n) → look l n = none
  | [], _ => rfl
  | x :: l, h => by
    rw [show look (x :: l) n = look l n from if_neg (h x (List.mem_cons_self ..))]
    exact look_none fun y hy => h y (List.mem_cons_of_mem _ hy)
section
variable {X : Cx} {pins : List (Addr × Obj)} {σ : L2.St} {H : Hp} {s : Shared}
theorem tb_keys (h : Heap) : ∀ {kvs : List (Key × V)} {l : List (Int × Tm)} {vs : List (Key × Value)} {es : List DictEntry} {P : Program} {w : World}, TbIn H kvs l → KV kvs vs → Pairs (mixKind P w) es vs → ReadsAll h (es.map (·.key)) ((l.map fun x => (PyData.int x.1, tmD x.2)).map (·.1)) []
  | [], [], _, _, _, _, _, k, p => by
    cases k; cases p
    exact ReadsAll.nil
  | [], _ :: _, _, _, _, _, h, _, _ => h.elim
  | _ :: _, [], _, _, _, _, h, _, _ => h.elim
  | kv :: r, x :: l, _, _, _, _, ⟨e, _, h2⟩, k, p => by
    cases k with
    | cons k1 kr =>
      cases p with
      | cons p1 p2 pr =>
        have p1 : keyIs _ _ = true := p1
        rw [← k1.1, e] at p1
        rcases keyIs_shape p1 with ⟨i, t, e1, e2⟩ | ⟨y, t, e1, _⟩
        · cases e1
          refine ReadsAll.cons (as := []) ?_ (tb_keys h h2 kr pr)
          show Reads h (DictEntry.key _) _ _
          rw [e2]
          exact Reads.int _ t
        · cases e1
theorem tb_vals (I : Inv X pins σ H s) : ∀ {kvs : List (Key × V)} {l : List (Int × Tm)} {vs : List (Key × Value)} {es : List DictEntry} {P : Program} {w : World}, TbIn H kvs l → KV kvs vs → Pairs (mixKind P w) es vs → ReadsAll s.heap (es.map (·.val)) ((l.map fun x => (PyData.int x.1, tmD x.2)).map (·.2)) []
  | [], [], _, _, _, _, _, k, p => by
    cases k; cases p
    exact ReadsAll.nil
  | [], _ :: _, _, _, _, _, h, _, _ => h.elim
  | _ :: _, [], _, _, _, _, h, _, _ => h.elim
  | kv :: r, x :: l, _, _, _, _, ⟨_, h1, h2⟩, k, p => by
    cases k with
    | cons k1 kr =>
      cases p with
      | cons p1 p2 pr =>
        refine ReadsAll.cons (as := []) ?_ (tb_vals I h2 kr pr)
        show Reads s.heap (DictEntry.val _) _ _
        rw [p2]
        exact tm_reads I _ _ _ h1 k1.2
/-- repr of a table -/
def rShowT (X : Cx) : List V → Hp → VK → Prop := fun xs H Q => X.A.guards = some [] ∧ ∃ a kvs l fs, ∃ B : Int, xs = [.ref a] ∧ H a = some (.dK kvs) ∧ TbIn H kvs l ∧ Names fs ∧ B ≤ 1000 ∧ (∀ x ∈ l, x.1.natAbs < 10000 ∧ x.2.wf fs B ∧ x.2.sz ≤ 1000 ∧ x.2.dep ≤ 50) ∧ l.length ≤ 30 ∧ Q (.str (tbD l).shown) H
theorem call_showT (hu : X.A.units + 64 < cLine) : CallR X (.builtin "repr") (rShowT X) := by
  intro pins s σ H xs us Q I r h
  obtain ⟨hg, a, kvs, l, fs, B, rfl, ha, ht, hn, hB, hl, hz, q⟩ := h
  obtain ⟨a1, a2, a3, a4⟩ := tbD_shw hn hB l hl
  cases r with
  | cons r rr =>
    cases rr
    cases r
    obtain ⟨_, hS, vs, k, o, es, ep, e, ⟨hc, _, _⟩, hd, _, pr, _⟩ := dk_of I.hok ha
    have rd : Reads s.heap (.ref a) (tbD l) (a :: [] ++ []) := Reads.dict e hc hd (tb_keys s.heap ht k pr) (tb_vals I ht k pr)
    have hln : (tbD l).shown.length ≤ sizeLine := by
      refine Nat.le_trans (dictText_len_le _) (Nat.le_trans (show _ ≤ 3000000 from ?_) (by decide))
      rw [a4]; omega
    have hdp : (tbD l).depth ≤ 51 := Nat.succ_le_succ a2
    refine repr_of_reads' rd a1 (fun _ z => ?_) hg (by omega) (fun _ _ e => e) (fun h' u tk hk => ⟨.str (tbD l).shown, H, I.kept hk, ⟨u, rfl⟩, q⟩) hln
    rcases List.mem_cons.mp z with z | z
    · rw [← z, beq_self_eq_true] at hS; cases hS
    · cases z
end
end J

/-! ### < and > of data; equality of terms; the order of terms -/
namespace J
open PySem PySem.Spec PyProof.Rows L2
section
variable {X : Cx}
def rCmpD (K : PySem.W.Frag) (g : PyData → PyData → Bool) : R2 := fun x y H Q => ∃ d e, Dp K H x d ∧ Dp K H y e ∧ PySem.W.alike d e = true ∧ d ≠ .none ∧ d.depth ≤ 60 ∧ Q (.bl (g d e)) H
theorem op_ltD (hu : X.A.units + 64 < cLine) : OpR X (compareOp .Lt) (rCmpD X.K fun d e => PySem.W.dataLt d e) := by
  intro pins s σ H x y v u Q I rx ry h
  obtain ⟨d, e, hd, he, al, nn, dp, q⟩ := h
  obtain ⟨as, r1⟩ := Dp.reads I d x v hd rx
  obtain ⟨bs, r2⟩ := Dp.reads I e y u he ry
  exact PySem.W.lt_data r1 r2 al nn (by have := Nat.min_le_left d.depth e.depth; omega) ⟨.bl _, H, I, rfl, q⟩
theorem op_gtD (hu : X.A.units + 64 < cLine) : OpR X (compareOp .Gt) (rCmpD X.K fun d e => PySem.W.dataLt e d) := by
  intro pins s σ H x y v u Q I rx ry h
  obtain ⟨d, e, hd, he, al, nn, dp, q⟩ := h
  obtain ⟨as, r1⟩ := Dp.reads I d x v hd rx
  obtain ⟨bs, r2⟩ := Dp.reads I e y u he ry
  exact PySem.W.gt_data r1 r2 al nn (by have := Nat.min_le_left d.depth e.depth; omega) ⟨.bl _, H, I, rfl, q⟩
end
/-! terms as data -/
mutual
theorem tmD_eqv : ∀ a b : Tm, PyData.eqv (tmD a) (tmD b) = true ↔ a = b
  | .var i, .var j => by
    show (i == j) = true ↔ _
    rw [beq_iff_eq]
    exact ⟨fun e => by rw [e], fun e => by injection e⟩
  | .var _, .app _ _ => ⟨fun h => (nomatch (show false = true from h)), fun h => nomatch h⟩
  | .app _ _, .var _ => ⟨fun h => (nomatch (show false = true from h)), fun h => nomatch h⟩
  | .app f ts, .app g us => by
    show ((f == g) && PyData.eqvAll (tmDs ts) (tmDs us)) = true ↔ _
    rw [Bool.and_eq_true, beq_iff_eq, tmDs_eqv ts us]
    exact ⟨fun ⟨a, b⟩ => by rw [a, b], fun e => by injection e with a b; exact ⟨a, b⟩⟩
theorem tmDs_eqv : ∀ a b : List Tm, PyData.eqvAll (tmDs a) (tmDs b) = true ↔ a = b
  | [], [] => ⟨fun _ => rfl, fun _ => rfl⟩
  | [], _ :: _ => ⟨fun h => (nomatch (show false = true from h)), fun h => nomatch h⟩
  | _ :: _, [] => ⟨fun h => (nomatch (show false = true from h)), fun h => nomatch h⟩
  | t :: ts, u :: us => by
    show (PyData.eqv (tmD t) (tmD u) && PyData.eqvAll (tmDs ts) (tmDs us)) = true ↔ _
    rw [Bool.and_eq_true, tmD_eqv t u, tmDs_eqv ts us]
    exact ⟨fun ⟨a, b⟩ => by rw [a, b], fun e => by injection e with a b; exact ⟨a, b⟩⟩
end
mutual
theorem tmD_dp {K : PySem.W.Frag} {H : Hp} : ∀ (t : Tm) (v : V), TmIn H t v → Dp K H v (tmD t)
  | .var n, v, h => by cases (show v = .int n from h); exact .int n
  | .app f ts, v, h => by
    obtain ⟨a, vs, rfl, ha, hts⟩ := h
    exact .tup (SqT.of ha) (.cons (.str f) (tmDs_dp ts vs hts))
theorem tmDs_dp {K : PySem.W.Frag} {H : Hp} : ∀ (ts : List Tm) (vs : List V), TmsIn H ts vs → DpAll K H vs (tmDs ts)
  | [], vs, h => by cases (show vs = [] from h); exact .nil
  | t :: ts, vs, h => by
    obtain ⟨v, w, rfl, h1, h2⟩ := h
    exact .cons (tmD_dp t v h1) (tmDs_dp ts w h2)
end
theorem low_ok {x : Str} (h : Low x) : PyData.strOk x = true := by
  unfold PyData.strOk
  rw [← Array.all_toList, List.all_eq_true]
  intro c hc
  have := h c hc
  exact decide_eq_true (by omega)
mutual
theorem tmD_lay {fs : List Str} (hn : Names fs) {B : Int} : ∀ t : Tm, t.wf fs B → (tmD t).canLay0 = true ∧ (tmD t).depth ≤ t.dep
  | .var n, _ => ⟨rfl, Nat.zero_le _⟩
  | .app f ts, w => by
    obtain ⟨⟨k, hk, _⟩, w⟩ := (show (∃ k, fs[k]? = some f ∧ ts.length = ar k) ∧ Tm.wfs fs B ts from w)
    have := tmDs_lay hn ts w
    refine ⟨?_, ?_⟩
    · show (PyData.strOk f && PyData.canLayAll0 (tmDs ts)) = true
      rw [this.1, low_ok (hn.low f (List.mem_of_getElem? hk))]; rfl
    · show max (PyData.str f).depth (PyData.depthAll (tmDs ts)) + 1 ≤ 1 + Tm.deps ts
      have : (PyData.str f).depth = 0 := rfl
      omega
theorem tmDs_lay {fs : List Str} (hn : Names fs) {B : Int} : ∀ ts : List Tm, Tm.wfs fs B ts → PyData.canLayAll0 (tmDs ts) = true ∧ PyData.depthAll (tmDs ts) ≤ Tm.deps ts
  | [], _ => ⟨rfl, Nat.le_refl _⟩
  | t :: ts, w => by
    have a := tmD_lay hn t w.1
    have b := tmDs_lay hn ts w.2
    refine ⟨?_, ?_⟩
    · show ((tmD t).canLay0 && PyData.canLayAll0 (tmDs ts)) = true
      rw [a.1, b.1]; rfl
    · show max (tmD t).depth (PyData.depthAll (tmDs ts)) ≤ max t.dep (Tm.deps ts)
      omega
end
theorem tmD_shaped {fs : List Str} (hn : Names fs) {B : Int} {t : Tm} (w : t.wf fs B) (h : t.dep ≤ 60) : SeqAt.shaped (tmD t) = true := by
  have := tmD_lay hn t w
  unfold SeqAt.shaped
  rw [this.1, Bool.true_and]
  exact decide_eq_true (by omega)
/-! symbols in rows -/
def rowD : V → PyData
  | .int n => .tuple [.int 0, .int n, .str ""]
  | .str f => .tuple [.int 1, .int 0, .str f]
  | _ => .tuple [.int 1, .int 0, .str ""]
theorem rowD_alike (x y : V) : PySem.W.alike (rowD x) (rowD y) = true := by cases x <;> cases y <;> rfl
theorem rows_alike : ∀ xs ys : List V, PySem.W.alikeAll (xs.map rowD) (ys.map rowD) = true
  | [], _ => rfl
  | _ :: _, [] => rfl
  | x :: xs, y :: ys => by
    show (PySem.W.alike (rowD x) (rowD y) && PySem.W.alikeAll (xs.map rowD) (ys.map rowD)) = true
    rw [rowD_alike, rows_alike xs ys]; rfl
def keyL (t : Tm) : List PyData := [.int ((syms t).length : Int), .list ((syms t).map rowD)]
theorem keyL_alike (t r : Tm) : PySem.W.alikeAll (keyL t) (keyL r) = true := by
  show (true && (PySem.W.alikeAll ((syms t).map rowD) ((syms r).map rowD) && true)) = true
  rw [rows_alike]; rfl
theorem row_inj : ∀ xs ys : List V, (∀ y ∈ xs, (∃ n, y = .int n) ∨ ∃ f, y = .str f) → (∀ y ∈ ys, (∃ n, y = .int n) ∨ ∃ f, y = .str f) → PySem.W.keyToksAll (xs.map rowD) = PySem.W.keyToksAll (ys.map rowD) → xs = ys
  | [], [], _, _, _ => rfl
  | [], _ :: _, _, _, h => by cases (show Sum.inl (0 : Int) = Sum.inl 1 from (List.cons.inj h).1)
  | _ :: _, [], _, _, h => by cases (show Sum.inl (1 : Int) = Sum.inl 0 from (List.cons.inj h).1)
  | x :: xs, y :: ys, hx, hy, h => by
    have h : Sum.inl 1 :: (PySem.W.keyToks (rowD x) ++ PySem.W.keyToksAll (xs.map rowD)) = Sum.inl 1 :: (PySem.W.keyToks (rowD y) ++ PySem.W.keyToksAll (ys.map rowD)) := h
    have h := (List.cons.inj h).2
    have ih := row_inj xs ys (fun z hz => hx z (List.mem_cons_of_mem _ hz)) (fun z hz => hy z (List.mem_cons_of_mem _ hz))
    rcases hx x (List.mem_cons_self ..) with ⟨n, rfl⟩ | ⟨f, rfl⟩
    · rcases hy y (List.mem_cons_self ..) with ⟨m, rfl⟩ | ⟨g, rfl⟩
      · have h : ([.inl 1, .inl 0, .inl 1, .inl n, .inl 1, .inr [], .inl 0] : List (Int ⊕ List Nat)) ++ PySem.W.keyToksAll (xs.map rowD) = [.inl 1, .inl 0, .inl 1, .inl m, .inl 1, .inr [], .inl 0] ++ PySem.W.keyToksAll (ys.map rowD) := h
        simp only [List.cons_append, List.nil_append, List.cons.injEq, Sum.inl.injEq, true_and] at h
        rw [h.1, ih h.2]
      · have h : ([.inl 1, .inl 0, .inl 1, .inl n, .inl 1, .inr [], .inl 0] : List (Int ⊕ List Nat)) ++ PySem.W.keyToksAll (xs.map rowD) = [.inl 1, .inl 1, .inl 1, .inl 0, .inl 1, .inr g.cps.toList, .inl 0] ++ PySem.W.keyToksAll (ys.map rowD) := h
        simp at h
    · rcases hy y (List.mem_cons_self ..) with ⟨m, rfl⟩ | ⟨g, rfl⟩
      · have h : ([.inl 1, .inl 1, .inl 1, .inl 0, .inl 1, .inr f.cps.toList, .inl 0] : List (Int ⊕ List Nat)) ++ PySem.W.keyToksAll (xs.map rowD) = [.inl 1, .inl 0, .inl 1, .inl m, .inl 1, .inr [], .inl 0] ++ PySem.W.keyToksAll (ys.map rowD) := h
        simp at h
      · have h : ([.inl 1, .inl 1, .inl 1, .inl 0, .inl 1, .inr f.cps.toList, .inl 0] : List (Int ⊕ List Nat)) ++ PySem.W.keyToksAll (xs.map rowD) = [.inl 1, .inl 1, .inl 1, .inl 0, .inl 1, .inr g.cps.toList, .inl 0] ++ PySem.W.keyToksAll (ys.map rowD) := h
        simp only [List.cons_append, List.nil_append, List.cons.injEq, Sum.inr.injEq, true_and] at h
        rw [PySem.W.str_of_cps h.1, ih h.2]
theorem nd_get {l : List Str} (nd : l.Nodup) {i j : Nat} {x : Str} (hi : l[i]? = some x) (hj : l[j]? = some x) : i = j := by
  obtain ⟨h1, e1⟩ := List.getElem?_eq_some_iff.mp hi
  obtain ⟨h2, e2⟩ := List.getElem?_eq_some_iff.mp hj
  exact (List.getElem_inj nd).mp (e1.trans e2.symm)
mutual
/-- a term's symbols tell the term -/
theorem syms_inj {fs : List Str} (nd : fs.Nodup) {B C : Int} : ∀ (t r : Tm) (a b : List V), t.wf fs B → r.wf fs C → syms t ++ a = syms r ++ b → t = r ∧ a = b
  | .var n, .var m, a, b, _, _, h => by
    have h : V.int n :: a = V.int m :: b := h
    obtain ⟨h1, h2⟩ := List.cons.inj h
    injection h1 with h1
    exact ⟨by rw [h1], h2⟩
  | .var n, .app g us, a, b, _, _, h => by
    have h : V.int n :: a = V.str g :: (symss us ++ b) := h
    cases (List.cons.inj h).1
  | .app f ts, .var m, a, b, _, _, h => by
    have h : V.str f :: (symss ts ++ a) = V.int m :: b := h
    cases (List.cons.inj h).1
  | .app f ts, .app g us, a, b, w1, w2, h => by
    have h : V.str f :: (symss ts ++ a) = V.str g :: (symss us ++ b) := h
    obtain ⟨h1, h2⟩ := List.cons.inj h
    injection h1 with h1
    subst h1
    obtain ⟨⟨i, i1, i2⟩, w1⟩ := (show (∃ k, fs[k]? = some f ∧ ts.length = ar k) ∧ Tm.wfs fs B ts from w1)
    obtain ⟨⟨j, j1, j2⟩, w2⟩ := (show (∃ k, fs[k]? = some f ∧ us.length = ar k) ∧ Tm.wfs fs C us from w2)
    cases nd_get nd i1 j1
    obtain ⟨e1, e2⟩ := symss_inj nd ts us a b w1 w2 (i2.trans j2.symm) h2
    exact ⟨by rw [e1], e2⟩
theorem symss_inj {fs : List Str} (nd : fs.Nodup) {B C : Int} : ∀ (ts us : List Tm) (a b : List V), Tm.wfs fs B ts → Tm.wfs fs C us → ts.length = us.length → symss ts ++ a = symss us ++ b → ts = us ∧ a = b
  | [], [], a, b, _, _, _, h => ⟨rfl, h⟩
  | [], _ :: _, _, _, _, _, l, _ => nomatch l
  | _ :: _, [], _, _, _, _, l, _ => nomatch l
  | t :: ts, u :: us, a, b, w1, w2, l, h => by
    have h : syms t ++ symss ts ++ a = syms u ++ symss us ++ b := h
    rw [List.append_assoc, List.append_assoc] at h
    obtain ⟨e1, h⟩ := syms_inj nd t u _ _ w1.1 w2.1 h
    obtain ⟨e2, e3⟩ := symss_inj nd ts us a b w1.2 w2.2 (Nat.succ.inj l) h
    exact ⟨by rw [e1, e2], e3⟩
end
theorem key_inj {fs : List Str} (nd : fs.Nodup) {B C : Int} {t r : Tm} (w1 : t.wf fs B) (w2 : r.wf fs C) (h : PySem.W.keyToksAll (keyL t) = PySem.W.keyToksAll (keyL r)) : t = r := by
  have h : Sum.inl 1 :: ([Sum.inl ((syms t).length : Int)] ++ (Sum.inl 1 :: (PySem.W.keyToksAll ((syms t).map rowD) ++ [Sum.inl 0]))) = Sum.inl 1 :: ([Sum.inl ((syms r).length : Int)] ++ (Sum.inl 1 :: (PySem.W.keyToksAll ((syms r).map rowD) ++ [Sum.inl 0]))) := h
  simp only [List.cons_append, List.nil_append, List.cons.injEq, true_and] at h
  have h2 := row_inj _ _ (fun y hy => syms_kind t y hy) (fun y hy => syms_kind r y hy) (List.append_cancel_right h.2)
  exact (syms_inj nd t r [] [] w1 w2 (by rw [List.append_nil, List.append_nil]; exact h2)).1
/-- the order's three cases -/
def klt (t r : Tm) : Bool := lexLt itemOrd (PySem.W.keyToksAll (keyL t)) (PySem.W.keyToksAll (keyL r))
def kcmp (t r : Tm) : Int := if klt t r = true then -1 else if klt r t = true then 1 else 0
theorem rows_dep : ∀ l : List V, PyData.depthAll (l.map rowD) ≤ 1
  | [] => Nat.zero_le _
  | y :: l => by
    have ih := rows_dep l
    have hy : (rowD y).depth ≤ 1 := by cases y <;> exact Nat.le_refl _
    show max (rowD y).depth (PyData.depthAll (l.map rowD)) ≤ 1
    omega
theorem keyL_dep (t : Tm) : PyData.depthAll (keyL t) ≤ 2 := by
  have := rows_dep (syms t)
  show max 0 (max (PyData.depthAll ((syms t).map rowD) + 1) 0) ≤ 2
  omega
theorem klt_self (t : Tm) : klt t t = false := lex_irrefl _
theorem klt_tri {fs : List Str} (nd : fs.Nodup) {B C : Int} {t r : Tm} (w1 : t.wf fs B) (w2 : r.wf fs C) (h1 : klt t r = false) (h2 : klt r t = false) : t = r := key_inj nd w1 w2 (lex_total _ _ h1 h2)
theorem klt_asym {t r : Tm} (h : klt t r = true) : klt r t = false := by
  cases e : klt r t with
  | false => rfl
  | true =>
    have := lex_trans _ _ _ h e
    have h2 := klt_self t
    rw [show klt t t = true from this] at h2
    cases h2
/-! lists of tuples -/
def LtIn (H : Hp) (p : Addr) (rows : List (List V)) : Prop := ∃ as : List Addr, H p = some (.lst (as.map V.ref)) ∧ as.length = rows.length ∧ ∀ (k : Nat) (a : Addr) (q : List V), as[k]? = some a → rows[k]? = some q → H a = some (.tup q)
theorem LtIn.same {H H' : Hp} {p : Addr} {rows : List (List V)} (h : LtIn H p rows) (s : Same H H') : LtIn H' p rows := by
  obtain ⟨as, h1, h2, h3⟩ := h
  exact ⟨as, s _ _ h1, h2, fun k a q ea eq => s _ _ (h3 k a q ea eq)⟩
theorem LtIn.push {H H' : Hp} {p a : Addr} {rows : List (List V)} {q : List V} {as : List Addr} (h2 : as.length = rows.length) (h3 : ∀ (k : Nat) (a : Addr) (q : List V), as[k]? = some a → rows[k]? = some q → H a = some (.tup q))
    (t : Tu H H') (e : H' p = some (.lst (as.map V.ref ++ [.ref a]))) (ha : H' a = some (.tup q)) : LtIn H' p (rows ++ [q]) := by
  refine ⟨as ++ [a], by rw [e, List.map_append]; rfl, by rw [List.length_append, List.length_append, h2]; rfl, fun k b r eb er => ?_⟩
  by_cases hk : k < as.length
  · rw [List.getElem?_append_left hk] at eb
    rw [List.getElem?_append_left (by omega)] at er
    exact t _ _ (h3 k b r eb er)
  · have h4 := (List.getElem?_eq_some_iff.mp eb).1
    rw [List.length_append, List.length_singleton] at h4
    have ek : k = as.length := by omega
    subst ek
    rw [List.getElem?_append_right (Nat.le_refl _), Nat.sub_self] at eb
    rw [List.getElem?_append_right (by omega), h2, Nat.sub_self] at er
    cases eb; cases er
    exact ha
/-- one list behind another -/
theorem LtIn.app {H H' : Hp} {p b r : Addr} {xs ys : List (List V)} {as bs : List Addr} (h2 : as.length = xs.length) (h3 : ∀ (k : Nat) (a : Addr) (q : List V), as[k]? = some a → xs[k]? = some q → H a = some (.tup q))
    (g2 : bs.length = ys.length) (g3 : ∀ (k : Nat) (a : Addr) (q : List V), bs[k]? = some a → ys[k]? = some q → H a = some (.tup q)) (t : Tu H H') (e : H' r = some (.lst (as.map V.ref ++ bs.map V.ref))) : LtIn H' r (xs ++ ys) := by
  refine ⟨as ++ bs, by rw [e, List.map_append], by rw [List.length_append, List.length_append, h2, g2], fun k c q ec eq => ?_⟩
  by_cases hk : k < as.length
  · rw [List.getElem?_append_left hk] at ec
    rw [List.getElem?_append_left (by omega)] at eq
    exact t _ _ (h3 k c q ec eq)
  · rw [List.getElem?_append_right (by omega)] at ec
    rw [List.getElem?_append_right (by omega), ← h2] at eq
    exact t _ _ (g3 _ c q ec eq)
def rowV : V → List V
  | .int n => [.int 0, .int n, .str ""]
  | .str f => [.int 1, .int 0, .str f]
  | _ => [.int 1, .int 0, .str ""]
theorem row_dp {K : PySem.W.Frag} {H : Hp} {a : Addr} {y : V} (h : H a = some (.tup (rowV y))) : Dp K H (.ref a) (rowD y) := by
  cases y with
  | int n => exact .tup (SqT.of h) (.cons (.int 0) (.cons (.int n) (.cons (.str _) .nil)))
  | str f => exact .tup (SqT.of h) (.cons (.int 1) (.cons (.int 0) (.cons (.str f) .nil)))
  | _ => exact .tup (SqT.of h) (.cons (.int 1) (.cons (.int 0) (.cons (.str _) .nil)))
theorem LtIn.dp {K : PySem.W.Frag} {H : Hp} {p : Addr} {l : List V} (h : LtIn H p (l.map rowV)) : Dp K H (.ref p) (.list (l.map rowD)) := by
  obtain ⟨as, h1, h2, h3⟩ := h
  rw [List.length_map] at h2
  refine .lst (SqL.of h1) (dp_all (by rw [List.length_map, List.length_map, h2]) fun k v d e1 e2 => ?_)
  rw [List.getElem?_map] at e1 e2
  cases ea : as[k]? with
  | none => rw [ea] at e1; cases e1
  | some a =>
    cases ey : l[k]? with
    | none => rw [ey] at e2; cases e2
    | some y =>
      rw [ea] at e1; rw [ey] at e2
      cases e1; cases e2
      exact row_dp (h3 k a _ ea (by rw [List.getElem?_map, ey]; rfl))
theorem rows_lay {fs : List Str} (hn : Names fs) : ∀ l : List V, (∀ y ∈ l, (∃ n, y = .int n) ∨ ∃ f, f ∈ fs ∧ y = .str f) → PyData.canLayAll0 (l.map rowD) = true ∧ PyData.depthAll (l.map rowD) ≤ 1
  | [], _ => ⟨rfl, Nat.zero_le _⟩
  | y :: l, h => by
    have ih := rows_lay hn l fun z hz => h z (List.mem_cons_of_mem _ hz)
    have hy : (rowD y).canLay0 = true ∧ (rowD y).depth ≤ 1 := by
      rcases h y (List.mem_cons_self ..) with ⟨n, rfl⟩ | ⟨f, hf, rfl⟩
      · exact ⟨by show (true && (true && (PyData.strOk "" && true))) = true; decide +kernel, Nat.le_refl _⟩
      · refine ⟨?_, Nat.le_refl _⟩
        show (true && (true && (PyData.strOk f && true))) = true
        rw [low_ok (hn.low f hf)]; rfl
    refine ⟨?_, ?_⟩
    · show ((rowD y).canLay0 && PyData.canLayAll0 (l.map rowD)) = true
      rw [hy.1, ih.1]; rfl
    · show max (rowD y).depth (PyData.depthAll (l.map rowD)) ≤ 1
      omega
end J

/-! ### five digits in a field; the order key as a text -/
namespace J
open PySem PySem.Spec PyProof.Rows L2
section
open Sem (wp)
open Builtin Builtin.Str Builtin.Int Builtin.Float
def d5L (n : Int) : List Nat := [48, 48, 48, 48 + (n / 10).toNat, 48 + (n % 10).toNat]
def d5 (n : Int) : Str := ⟨(d5L n).toArray⟩
def sp05 : Str := "05d"
theorem p05 : ∃ f, parseFormatSpec sp05.cps.toList "int" 62 = .ok f ∧ intSpecGood sp05 f = true ∧ f.fill = 48 ∧ f.align = 61 ∧ f.width = some 5 := ⟨_, rfl, by decide +kernel, rfl, rfl, rfl⟩
theorem t05 : ∀ n : Fin 100, ∀ f, parseFormatSpec sp05.cps.toList "int" 62 = .ok f → (intSpecText f (n.val : Int)).cps.toList = d5L n.val := by
  intro n f h
  cases h
  revert n
  decide +kernel
theorem s05 (n : Int) (h0 : 0 ≤ n) (h1 : n < 100) {f : FormatSpec} (h : parseFormatSpec sp05.cps.toList "int" 62 = .ok f) : intSpecText f n = d5 n := by
  obtain ⟨k, rfl⟩ := Int.eq_ofNat_of_zero_le h0
  exact PySem.W.str_of_cps (t05 ⟨k, by omega⟩ f h)
theorem small05 {a : Int} (h0 : 0 ≤ a) (h1 : a < 100) : a.natAbs.log2 < 1920 := by
  refine Nat.lt_of_le_of_lt (Nat.log2_le_self _) ?_
  omega
def f05 : FormatSpec := { fill := 48, align := 61, width := some 5, type := some 100 }
theorem pf05 : parseFormatSpec sp05.cps.toList "int" 62 = .ok f05 := by rfl
theorem good05 {prog : Program} {w : World} {A B : Around} {R : Result → Shared → Prop} {s : Shared} {a : Int} (t u : Tok) (h0 : 0 ≤ a) (h1 : a < 100) (q : R (.ok (.ret (.str (d5 a) s.toks))) { s with toks := s.toks + 1 }) :
    wpAny (model prog w) B («int.__format__» ⟨[.int a t, .str sp05 u], []⟩) (fun fin s' => match fin with | .done f => R (.ok f) s' | .again c' => c'.quiet = true ∧ codeAny (model prog w) A c' R s') (fun e s' => R (.error e) s') s := by
  have hne : (sp05.length == 0) = false := by decide
  have hl := PySem.overDigitLimit_small (small05 h0 h1)
  have hasc : ((sp05.cps.toList.drop 1).any (· ≥ 128) || (sp05.cps.getD 0 0 ≥ 128 && !([60, 62, 61, 94] : List Nat).contains (sp05.cps.getD 1 0))) = false := by decide
  unfold «int.__format__»
  simp only [selfAndOne, noKeywords, intOfSelf, asInt?, asStr?, List.isEmpty_nil, if_true, pure_bind, bind_pure,
    bind_assoc, hne, hasc, Bool.false_eq_true, if_false, show (Value.str sp05 u == Value.none) = false from rfl]
  refine wpAny_bind (wpAny_typeNameOf (T := "str") (typeIs_str _ _ _) (by decide) fun _ => wpAny_bind (wpAny_typeNameOfCut_int ?_))
  simp only [pf05]
  show wpAny _ _ (do let r ← overDigitLimit? a; _) _ _ _
  rw [hl]
  refine wpAny_bind (wpAny_pure ?_)
  suffices hh : ∀ x : Str, x = d5 a → R (.ok (.ret (.str x s.toks))) { s with toks := s.toks + 1 } ∧ x.length ≤ sizeLine by
    refine wpAny_bind (wpAny_mkStr (wpAny_pure (hh _ ?_).1) (hh _ ?_).2)
    all_goals
      obtain ⟨k, rfl⟩ := Int.eq_ofNat_of_zero_le h0
      have hk : k < 100 := by omega
      refine PySem.W.str_of_cps ?_
      clear hh hl h0 h1 q
      revert k
      decide +kernel
  intro x hx
  subst hx
  exact ⟨q, by show 5 ≤ _; decide⟩
theorem gives05 {a : Int} (t u : Tok) (h0 : 0 ≤ a) (h1 : a < 100) : Gives («int.__format__» ⟨[.int a t, .str sp05 u], []⟩) (.str (d5 a)) :=
  fun _ _ _ _ _ hq => good05 t u h0 h1 hq.2
end
section
variable {X : Cx}
/-- {n:05d} -/
def tFmt5 (te ts : TE) : TE := fun σ H Q => te σ H fun x H1 => ∃ i : Int, x = .int i ∧ 0 ≤ i ∧ i < 100 ∧ ts σ H1 fun y H2 => y = .str sp05 ∧ Q (.str (d5 i)) H2
theorem pe_fmt5 {e sp : Expr} {te ts : TE} {pos : Pos} (he : PE X e te) (hs : PE X sp ts) : PE X (.FormattedValue e (-1) (some sp) pos) (tFmt5 te ts) := by
  refine ⟨fun pins s σ H Q I h => ?_⟩
  refine wpAny_FormattedValue_spec (thn (he.run pins s σ H _ I h) fun v s1 hv => ?_)
  obtain ⟨x, H1, I1, r1, i, rfl, h0, h1, q⟩ := hv
  obtain ⟨t, rfl⟩ := r1
  refine thn (hs.run pins s1 σ H1 _ I1 q) fun v2 s2 hv2 => ?_
  obtain ⟨y, H2, I2, r2, rfl, q2⟩ := hv2
  obtain ⟨t2, rfl⟩ := r2
  refine ⟨sp05, t2, rfl, wpAny_formatField_spec (by decide) (fun s' => typeIs_int s' i t) slot_int_format entry_int_format args_int_format (fun u => gives05 t u h0 h1) ?_ (by decide) (by show 5 ≤ _; decide)⟩
  exact ⟨.str (d5 i), H2, I2.tok _, ⟨_, rfl⟩, q2⟩
end
/-! the key of a term -/
def encV : V → List Nat
  | .int n => d5L n
  | .str f => f.cps.toList ++ [32]
  | _ => []
def encS : List V → List Nat
  | [] => []
  | x :: r => encV x ++ encS r
def keyS (t : Tm) : Str := ⟨(encS (syms t)).toArray⟩
def keyT (t : Tm) : List PyData := [.int ((syms t).length : Int), .str (keyS t)]
def encStr : V → Str
  | .int n => d5 n
  | .str f => f ++ (" " : Str)
  | _ => Str.empty
/-- a symbol: a variable below 100 or a name -/
def SymOk : V → Prop
  | .int n => 0 ≤ n ∧ n < 100
  | .str f => Low f ∧ 1 ≤ f.length
  | _ => False
theorem app_lt : ∀ (p a b : List Nat), p ++ a < p ++ b ↔ a < b
  | [], _, _ => Iff.rfl
  | x :: p, a, b => by
    rw [List.cons_append, List.cons_append, List.cons_lt_cons_iff, app_lt p a b]
    constructor
    · rintro (h | ⟨_, h⟩)
      · exact absurd h (Nat.lt_irrefl _)
      · exact h
    · exact fun h => .inr ⟨rfl, h⟩
/-- two lists part at one place -/
def Part (a b : List Nat) (k : Prop) : Prop := ∃ (p r s : List Nat) (c d : Nat), a = p ++ c :: r ∧ b = p ++ d :: s ∧ c ≠ d ∧ (c < d ↔ k)
theorem Part.lt {a b : List Nat} {k : Prop} (h : Part a b k) (x y : List Nat) : a ++ x < b ++ y ↔ k := by
  obtain ⟨p, r, s, c, d, rfl, rfl, ne, e⟩ := h
  rw [List.append_assoc, List.append_assoc, app_lt, List.cons_append, List.cons_append, List.cons_lt_cons_iff, ← e]
  exact ⟨fun z => z.elim id fun z => absurd z.1 ne, .inl⟩
theorem part_names : ∀ (a b : List Nat), a ≠ b → (∀ c ∈ a, 97 ≤ c) → (∀ c ∈ b, 97 ≤ c) → Part (a ++ [32]) (b ++ [32]) (a < b)
  | [], [], h, _, _ => absurd rfl h
  | [], y :: b, _, _, hb => ⟨[], [], b ++ [32], 32, y, rfl, rfl, by have := hb y (List.mem_cons_self ..); omega, ⟨fun _ => List.nil_lt_cons _ _, fun _ => by have := hb y (List.mem_cons_self ..); omega⟩⟩
  | x :: a, [], _, ha, _ => ⟨[], a ++ [32], [], x, 32, rfl, rfl, by have := ha x (List.mem_cons_self ..); omega, ⟨fun h => by have := ha x (List.mem_cons_self ..); omega, fun h => absurd h (List.not_lt_nil _)⟩⟩
  | x :: a, y :: b, h, ha, hb => by
    by_cases e : x = y
    · subst e
      obtain ⟨p, r, s, c, d, h1, h2, h3, h4⟩ := part_names a b (fun z => h (by rw [z])) (fun c hc => ha c (List.mem_cons_of_mem _ hc)) (fun c hc => hb c (List.mem_cons_of_mem _ hc))
      refine ⟨x :: p, r, s, c, d, by rw [List.cons_append, h1]; rfl, by rw [List.cons_append, h2]; rfl, h3, ?_⟩
      rw [h4, List.cons_lt_cons_iff]
      exact ⟨fun z => .inr ⟨rfl, z⟩, fun z => z.elim (fun z => absurd z (Nat.lt_irrefl _)) (·.2)⟩
    · refine ⟨[], a ++ [32], b ++ [32], x, y, rfl, rfl, e, ?_⟩
      rw [List.cons_lt_cons_iff]
      exact ⟨.inl, fun z => z.elim id fun z => absurd z.1 e⟩
theorem part_digits {n m : Int} (hn : 0 ≤ n ∧ n < 100) (hm : 0 ≤ m ∧ m < 100) (h : n ≠ m) : Part (d5L n) (d5L m) (n < m) := by
  by_cases e : n / 10 = m / 10
  · refine ⟨[48, 48, 48, 48 + (n / 10).toNat], [], [], 48 + (n % 10).toNat, 48 + (m % 10).toNat, rfl, by rw [e]; rfl, by omega, by omega⟩
  · refine ⟨[48, 48, 48], [48 + (n % 10).toNat], [48 + (m % 10).toNat], 48 + (n / 10).toNat, 48 + (m / 10).toNat, rfl, rfl, by omega, by omega⟩
theorem rowD_lt_int (n m : Int) : PySem.W.dataLt (rowD (.int n)) (rowD (.int m)) = decide (n < m) := by
  by_cases h : n = m
  · subst h
    rw [PySem.W.dataLt_self]
    exact (decide_eq_false (Int.lt_irrefl _)).symm
  · show lexLt itemOrd ([.inl 1, .inl 0, .inl 1, .inl n, .inl 1, .inr [], .inl 0] : List (Int ⊕ List Nat)) [.inl 1, .inl 0, .inl 1, .inl m, .inl 1, .inr [], .inl 0] = _
    rw [lex_self, lex_self, lex_self, lex_diff (fun z => h (Sum.inl.inj z))]
    rfl
theorem rowD_lt_str (f g : Str) : PySem.W.dataLt (rowD (.str f)) (rowD (.str g)) = decide (f.cps.toList < g.cps.toList) := by
  by_cases h : f.cps.toList = g.cps.toList
  · have h := PySem.W.str_of_cps h
    subst h
    rw [PySem.W.dataLt_self]
    exact (decide_eq_false (List.lt_irrefl _)).symm
  · show lexLt itemOrd ([.inl 1, .inl 1, .inl 1, .inl 0, .inl 1, .inr f.cps.toList, .inl 0] : List (Int ⊕ List Nat)) [.inl 1, .inl 1, .inl 1, .inl 0, .inl 1, .inr g.cps.toList, .inl 0] = _
    rw [lex_self, lex_self, lex_self, lex_self, lex_self, lex_diff (fun z => h (Sum.inr.inj z))]
    rfl
theorem low_ge {f : Str} (h : Low f) : ∀ c ∈ f.cps.toList, 97 ≤ c := fun c hc => (h c hc).1
theorem part_name_int {f : Str} (h : Low f) (h1 : 1 ≤ f.length) (n : Int) : Part (encV (.int n)) (encV (.str f)) True ∧ Part (encV (.str f)) (encV (.int n)) False := by
  obtain ⟨c, r, e, hc⟩ : ∃ c r, f.cps.toList ++ [32] = c :: r ∧ 97 ≤ c := by
    cases h' : f.cps.toList with
    | nil =>
      have h1 : 1 ≤ f.cps.size := h1
      rw [← Array.length_toList, h'] at h1
      exact absurd h1 (by decide)
    | cons c r => exact ⟨c, r ++ [32], rfl, low_ge h c (by rw [h']; exact List.mem_cons_self ..)⟩
  have e1 : encV (.int n) = [] ++ 48 :: [48, 48, 48 + (n / 10).toNat, 48 + (n % 10).toNat] := rfl
  have e2 : encV (.str f) = [] ++ c :: r := e
  exact ⟨⟨[], _, _, 48, c, e1, e2, by omega, fun _ => trivial, fun _ => by omega⟩, ⟨[], _, _, c, 48, e2, e1, by omega, fun z => absurd z (by omega), False.elim⟩⟩
/-- two symbols that differ part as their rows compare -/
theorem part_sym {x y : V} (hx : SymOk x) (hy : SymOk y) (h : x ≠ y) : Part (encV x) (encV y) (PySem.W.dataLt (rowD x) (rowD y) = true) ∧ PyData.eqv (rowD x) (rowD y) = false := by
  match x, y, hx, hy with
  | .int n, .int m, hx, hy =>
    have ne : n ≠ m := fun z => h (by rw [z])
    rw [rowD_lt_int, decide_eq_true_iff]
    refine ⟨part_digits hx hy ne, ?_⟩
    show ((0 : Int) == 0 && ((n == m) && _)) = false
    rw [show (n == m) = false from beq_false_of_ne ne]; rfl
  | .str f, .str g, hx, hy =>
    have ne : f ≠ g := fun z => h (by rw [z])
    have ne2 : f.cps.toList ≠ g.cps.toList := fun z => ne (PySem.W.str_of_cps z)
    rw [rowD_lt_str, decide_eq_true_iff]
    refine ⟨part_names _ _ ne2 (low_ge hx.1) (low_ge hy.1), ?_⟩
    show ((1 : Int) == 1 && ((0 : Int) == 0 && ((f == g) && true))) = false
    rw [show (f == g) = false from beq_false_of_ne ne]; rfl
  | .int n, .str f, _, hy => exact ⟨by rw [show (PySem.W.dataLt (rowD (.int n)) (rowD (.str f)) = true) = True from eq_true rfl]; exact (part_name_int hy.1 hy.2 n).1, rfl⟩
  | .str f, .int n, hx, _ => exact ⟨by rw [show (PySem.W.dataLt (rowD (.str f)) (rowD (.int n)) = true) = False from eq_false (by intro z; cases (show false = true from z))]; exact (part_name_int hx.1 hx.2 n).2, rfl⟩
theorem enc_lt : ∀ xs ys : List V, xs.length = ys.length → (∀ x ∈ xs, SymOk x) → (∀ y ∈ ys, SymOk y) → (encS xs < encS ys ↔ lexLt itemOrd (PySem.W.keyToksAll (xs.map rowD)) (PySem.W.keyToksAll (ys.map rowD)) = true)
  | [], [], _, _, _ => by
    rw [lex_irrefl]
    exact ⟨fun z => absurd z (List.lt_irrefl _), fun z => nomatch z⟩
  | [], _ :: _, l, _, _ => nomatch l
  | _ :: _, [], l, _, _ => nomatch l
  | x :: xs, y :: ys, l, hx, hy => by
    have ih := enc_lt xs ys (Nat.succ.inj l) (fun z hz => hx z (List.mem_cons_of_mem _ hz)) (fun z hz => hy z (List.mem_cons_of_mem _ hz))
    have al := rowD_alike x y
    have ox := hx x (List.mem_cons_self ..)
    have oy := hy y (List.mem_cons_self ..)
    show encV x ++ encS xs < encV y ++ encS ys ↔ lexLt itemOrd (PySem.W.keyToksAll (rowD x :: xs.map rowD)) (PySem.W.keyToksAll (rowD y :: ys.map rowD)) = true
    by_cases h : ∃ z : V, z = x ∧ z = y
    · obtain ⟨z, e1, e2⟩ := h
      have e : x = y := e1.symm.trans e2
      subst e
      rw [app_lt, ih, PySem.W.dataLt_all_yes al (PySem.W.eqv_refl_alike _ al)]
    · have h : x ≠ y := fun z => h ⟨x, rfl, z⟩
      obtain ⟨p, q⟩ := part_sym ox oy h
      rw [p.lt, PySem.W.dataLt_all_no al q]
theorem toks_key (t : Tm) : PySem.W.keyToksAll (keyT t) = [.inl 1, .inl ((syms t).length : Int), .inl 1, .inr (encS (syms t)), .inl 0] := rfl
theorem toks_keyL (t : Tm) : PySem.W.keyToksAll (keyL t) = .inl 1 :: .inl ((syms t).length : Int) :: .inl 1 :: (PySem.W.keyToksAll ((syms t).map rowD) ++ [.inl 0]) := rfl
theorem syms_ok {fs : List Str} (hn : Names fs) {B : Int} (hB : B ≤ 100) : ∀ t : Tm, t.wf fs B → ∀ y ∈ syms t, SymOk y := by
  refine Tm.ind (fun n w y hy => ?_) fun f ts ih w y hy => ?_
  · cases List.mem_singleton.mp hy
    exact ⟨w.1, Int.lt_of_lt_of_le w.2 hB⟩
  · rcases List.mem_cons.mp (show y ∈ V.str f :: symss ts from hy) with e | h
    · obtain ⟨⟨k, hk, _⟩, _⟩ := (show (∃ k, fs[k]? = some f ∧ ts.length = ar k) ∧ Tm.wfs fs B ts from w)
      subst e
      exact ⟨hn.low f (List.mem_of_getElem? hk), hn.lo f (List.mem_of_getElem? hk)⟩
    · have go : ∀ us : List Tm, (∀ u ∈ us, u ∈ ts) → y ∈ symss us → SymOk y := by
        intro us
        induction us with
        | nil => exact fun _ h => nomatch h
        | cons u us ih2 =>
          intro hs h
          rcases List.mem_append.mp (show y ∈ syms u ++ symss us from h) with h | h
          · exact ih u (hs u (List.mem_cons_self ..)) (Tm.wf_of_mem w.2 (hs u (List.mem_cons_self ..))) y h
          · exact ih2 (fun v hv => hs v (List.mem_cons_of_mem _ hv)) h
      exact go ts (fun _ h => h) h
/-- the text key orders terms as the rows do -/
theorem key_lt {fs : List Str} (hn : Names fs) {B C : Int} (hB : B ≤ 100) (hC : C ≤ 100) {t r : Tm} (wt : t.wf fs B) (wr : r.wf fs C) : PySem.W.dataLt (.tuple (keyT t)) (.tuple (keyT r)) = klt t r := by
  show lexLt itemOrd (PySem.W.keyToksAll (keyT t)) (PySem.W.keyToksAll (keyT r)) = lexLt itemOrd (PySem.W.keyToksAll (keyL t)) (PySem.W.keyToksAll (keyL r))
  rw [toks_key, toks_key, toks_keyL, toks_keyL, lex_self, lex_self]
  by_cases hl : (syms t).length = (syms r).length
  · rw [hl, lex_self, lex_self, lex_self, lex_self]
    have al : PySem.W.alike (.list ((syms t).map rowD)) (.list ((syms r).map rowD)) = true := rows_alike _ _
    have h := enc_lt (syms t) (syms r) hl (syms_ok hn hB t wt) (syms_ok hn hC r wr)
    by_cases e : syms t = syms r
    · rw [e, lex_irrefl, lex_irrefl]
    · have ne : encS (syms t) ≠ encS (syms r) := fun z => by
        have h2 := enc_lt (syms r) (syms t) hl.symm (syms_ok hn hC r wr) (syms_ok hn hB t wt)
        rw [z] at h h2
        have a := (not_congr h).mp (List.lt_irrefl _)
        have b := (not_congr h2).mp (List.lt_irrefl _)
        rw [Bool.not_eq_true] at a b
        exact e (row_inj _ _ (fun y hy => syms_kind t y hy) (fun y hy => syms_kind r y hy) (lex_total _ _ a b))
      rw [lex_diff (fun z => ne (Sum.inr.inj z))]
      have q : PyData.eqv (.list ((syms t).map rowD)) (.list ((syms r).map rowD)) = false := by
        cases q : PyData.eqv (.list ((syms t).map rowD)) (.list ((syms r).map rowD)) with
        | false => rfl
        | true => exact absurd (row_inj _ _ (fun y hy => syms_kind t y hy) (fun y hy => syms_kind r y hy) ((PySem.W.toks_eqv _ _ al).1 q)) e
      have h3 := (PySem.W.toks_eqv _ _ al).2 q [.inl 0] [.inl 0]
      have h3 : lexLt itemOrd (PySem.W.keyToksAll ((syms t).map rowD) ++ [.inl 0]) (PySem.W.keyToksAll ((syms r).map rowD) ++ [.inl 0]) = lexLt itemOrd (PySem.W.keyToksAll ((syms t).map rowD)) (PySem.W.keyToksAll ((syms r).map rowD)) := h3
      rw [h3]
      show decide (encS (syms t) < encS (syms r)) = _
      exact Bool.eq_iff_iff.mpr (by rw [decide_eq_true_iff]; exact h)
  · have ne : (Sum.inl ((syms t).length : Int) : Int ⊕ List Nat) ≠ .inl ((syms r).length : Int) := fun z => hl (by have := Sum.inl.inj z; omega)
    rw [lex_diff ne, lex_diff ne]
theorem encStr_tl (y : V) : (encStr y).cps.toList = encV y := by
  cases y with
  | int n => rfl
  | str f => exact tl_app f " "
  | _ => rfl
theorem joinL_nil : ∀ l : List (List Nat), TL.joinL [] l = l.flatten
  | [] => rfl
  | [a] => by show a = [a].flatten; simp
  | a :: b :: r => by
    show a ++ ([] ++ TL.joinL [] (b :: r)) = _
    rw [joinL_nil (b :: r)]; rfl
theorem join_key (l : List V) : Txt.join ("" : Str) (l.map encStr) = ⟨(encS l).toArray⟩ := by
  refine PySem.W.str_of_cps ?_
  rw [TL.join_eq]
  show TL.tl (Str.join "" (l.map encStr)) = _
  rw [TL.tl_join, show TL.tl ("" : Str) = [] from rfl, joinL_nil, List.map_map]
  induction l with
  | nil => rfl
  | cons y l ih =>
    rw [List.map_cons, List.flatten_cons, ih]
    show (encStr y).cps.toList ++ _ = encV y ++ _
    rw [encStr_tl]
theorem sum_le {α : Type} {f : α → Nat} {m : Nat} : ∀ {l : List α}, (∀ y ∈ l, f y ≤ m) → (l.map f).sum ≤ m * l.length
  | [], _ => Nat.zero_le _
  | y :: l, h => by
    have a := h y (List.mem_cons_self ..)
    have b := sum_le (l := l) fun z hz => h z (List.mem_cons_of_mem _ hz)
    show f y + (l.map f).sum ≤ m * (l.length + 1)
    rw [Nat.mul_add, Nat.mul_one]
    omega
theorem syms_name {fs : List Str} {B : Int} : ∀ {t : Tm} {f : Str}, t.wf fs B → V.str f ∈ syms t → f ∈ fs
  | .var _, f, _, h => by cases List.mem_singleton.mp h
  | .app g ts, f, w, h => by
    obtain ⟨⟨k, hk, _⟩, w⟩ := (show (∃ k, fs[k]? = some g ∧ ts.length = ar k) ∧ Tm.wfs fs B ts from w)
    rcases List.mem_cons.mp (show V.str f ∈ V.str g :: symss ts from h) with e | h
    · injection e with e; rw [e]; exact List.mem_of_getElem? hk
    · exact go ts w h
where go {fs : List Str} {B : Int} {f : Str} : ∀ ts : List Tm, Tm.wfs fs B ts → V.str f ∈ symss ts → f ∈ fs
  | [], _, h => nomatch h
  | t :: ts, w, h => by
    rcases List.mem_append.mp (show V.str f ∈ syms t ++ symss ts from h) with h | h
    · exact syms_name w.1 h
    · exact go ts w.2 h
end J

/-! ### steps: a pattern with the variable 9 at one place -/
namespace J
open PySem L2
mutual
theorem sub_id (m : Int → Option Tm) : ∀ t : Tm, (∀ n ∈ occ t, (m n).getD (.var n) = .var n) → sub m t = t
  | .var n, h => h n (List.mem_singleton.mpr rfl)
  | .app f ts, h => congrArg (Tm.app f) (subs_id m ts h)
theorem subs_id (m : Int → Option Tm) : ∀ ts : List Tm, (∀ n ∈ occs ts, (m n).getD (.var n) = .var n) → subs m ts = ts
  | [], _ => rfl
  | t :: ts, h => by
    show sub m t :: subs m ts = t :: ts
    rw [sub_id m t fun n hn => h n (List.mem_append.mpr (.inl hn)), subs_id m ts fun n hn => h n (List.mem_append.mpr (.inr hn))]
end
theorem occs_mem {n : Int} : ∀ {ts : List Tm}, n ∈ occs ts ↔ ∃ t ∈ ts, n ∈ occ t
  | [] => ⟨fun h => (nomatch h), fun ⟨_, h, _⟩ => nomatch h⟩
  | t :: ts => by
    show n ∈ occ t ++ occs ts ↔ _
    rw [List.mem_append, occs_mem (ts := ts)]
    constructor
    · rintro (h | ⟨u, h1, h2⟩)
      · exact ⟨t, List.mem_cons_self .., h⟩
      · exact ⟨u, List.mem_cons_of_mem _ h1, h2⟩
    · rintro ⟨u, h1, h2⟩
      rcases List.mem_cons.mp h1 with e | h1
      · rw [e] at h2; exact .inl h2
      · exact .inr ⟨u, h1, h2⟩
/-- what stood there, put in again -/
theorem sub_rep (m : Int → Option Tm) {z : Int} {c : Tm} (hz : (m z).getD (.var z) = c) : ∀ (q : List Int) (t : Tm), at? q t = some c → z ∉ occ t → (∀ n ∈ occ (rep (.var z) q t), n ≠ z → (m n).getD (.var n) = .var n) → sub m (rep (.var z) q t) = t
  | [], t, h, _, _ => by
    cases (show some t = some c from h)
    exact hz
  | k :: q, .var _, h, _, _ => nomatch h
  | k :: q, .app f ts, h, ho, hi => by
    rw [at_cons_app] at h
    by_cases h1 : 1 ≤ k
    · rw [if_pos h1] at h
      cases ht : ts[(k - 1).toNat]? with
      | none => rw [ht] at h; cases h
      | some t =>
        rw [ht] at h
        have h : at? q t = some c := h
        have hk := (List.getElem?_eq_some_iff.mp ht).1
        have e : ts.getD (k - 1).toNat (.var z) = t := by rw [List.getD_eq_getElem?_getD, ht]; rfl
        have ho : z ∉ occs ts := ho
        have hi : ∀ n ∈ occs (ts.set (k - 1).toNat (rep (.var z) q (ts.getD (k - 1).toNat (.var z)))), n ≠ z → (m n).getD (.var n) = .var n := hi
        rw [e] at hi
        have mt := List.mem_of_getElem? ht
        have ih := sub_rep m hz q t h (fun w => ho (occs_mem.mpr ⟨t, mt, w⟩)) fun n hn => hi n (occs_mem.mpr ⟨_, List.mem_set hk _, hn⟩)
        show Tm.app f (subs m (ts.set (k - 1).toNat (rep (.var z) q (ts.getD (k - 1).toNat (.var z))))) = .app f ts
        rw [e]
        congr 1
        rw [subs_map]
        refine List.ext_getElem? fun j => ?_
        rw [List.getElem?_map, List.getElem?_set]
        by_cases hj : (k - 1).toNat = j
        · subst hj
          rw [if_pos rfl, if_pos hk, ht]
          exact congrArg some ih
        · rw [if_neg hj]
          cases gj : ts[j]? with
          | none => rfl
          | some u =>
            refine congrArg some (sub_id m u fun n hn => ?_)
            have mu := List.mem_of_getElem? gj
            refine hi n (occs_mem.mpr ⟨u, ?_, hn⟩) fun w => ho (occs_mem.mpr ⟨u, mu, by rw [← w]; exact hn⟩)
            exact List.mem_of_getElem? (i := j) (by rw [List.getElem?_set, if_neg hj, gj])
    · rw [if_neg h1] at h; cases h
end J

/-! ### sizes, places and variables behind a substitution and a replacement -/
namespace J
open PySem L2
mutual
theorem sub_szM (m : Int → Option Tm) (M D : Nat) (h1 : 1 ≤ M) : ∀ t : Tm, (∀ n ∈ occ t, ((m n).getD (.var n)).sz ≤ M ∧ ((m n).getD (.var n)).dep ≤ 1 + D) → (sub m t).sz ≤ M * t.sz ∧ (sub m t).dep ≤ t.dep + D
  | .var n, h => by
    have := h n (List.mem_singleton.mpr rfl)
    show ((m n).getD (.var n)).sz ≤ M * 1 ∧ ((m n).getD (.var n)).dep ≤ 1 + D
    rw [Nat.mul_one]; exact this
  | .app f ts, h => by
    have := subs_szM m M D h1 ts h
    show 1 + Tm.szs (subs m ts) ≤ M * (1 + Tm.szs ts) ∧ 1 + Tm.deps (subs m ts) ≤ 1 + Tm.deps ts + D
    rw [Nat.mul_add]
    omega
theorem subs_szM (m : Int → Option Tm) (M D : Nat) (h1 : 1 ≤ M) : ∀ ts : List Tm, (∀ n ∈ occs ts, ((m n).getD (.var n)).sz ≤ M ∧ ((m n).getD (.var n)).dep ≤ 1 + D) → Tm.szs (subs m ts) ≤ M * Tm.szs ts ∧ Tm.deps (subs m ts) ≤ Tm.deps ts + D
  | [], _ => ⟨Nat.zero_le _, Nat.zero_le _⟩
  | t :: ts, h => by
    have a := sub_szM m M D h1 t fun n hn => h n (List.mem_append.mpr (.inl hn))
    have b := subs_szM m M D h1 ts fun n hn => h n (List.mem_append.mpr (.inr hn))
    show (sub m t).sz + Tm.szs (subs m ts) ≤ M * (t.sz + Tm.szs ts) ∧ max (sub m t).dep (Tm.deps (subs m ts)) ≤ max t.dep (Tm.deps ts) + D
    rw [Nat.mul_add]
    omega
end
mutual
theorem sub_wf {fs : List Str} {B C : Int} (m : Int → Option Tm) : ∀ t : Tm, t.wf fs B → (∀ n ∈ occ t, ((m n).getD (.var n)).wf fs C) → (sub m t).wf fs C
  | .var n, _, h => h n (List.mem_singleton.mpr rfl)
  | .app f ts, w, h => by
    obtain ⟨⟨k, h1, h2⟩, w⟩ := (show (∃ k, fs[k]? = some f ∧ ts.length = ar k) ∧ Tm.wfs fs B ts from w)
    exact ⟨⟨k, h1, by rw [subs_map, List.length_map]; exact h2⟩, subs_wf m ts w h⟩
theorem subs_wf {fs : List Str} {B C : Int} (m : Int → Option Tm) : ∀ ts : List Tm, Tm.wfs fs B ts → (∀ n ∈ occs ts, ((m n).getD (.var n)).wf fs C) → Tm.wfs fs C (subs m ts)
  | [], _, _ => trivial
  | t :: ts, w, h => ⟨sub_wf m t w.1 fun n hn => h n (List.mem_append.mpr (.inl hn)), subs_wf m ts w.2 fun n hn => h n (List.mem_append.mpr (.inr hn))⟩
end
theorem at_wf {fs : List Str} {B : Int} : ∀ (q : List Int) (t c : Tm), at? q t = some c → t.wf fs B → c.wf fs B
  | [], t, c, h, w => by cases (show some t = some c from h); exact w
  | k :: q, .var _, _, h, _ => nomatch h
  | k :: q, .app f ts, c, h, w => by
    rw [at_cons_app] at h
    by_cases h1 : 1 ≤ k
    · rw [if_pos h1] at h
      cases ht : ts[(k - 1).toNat]? with
      | none => rw [ht] at h; cases h
      | some t =>
        rw [ht] at h
        exact at_wf q t c h (Tm.wf_of_mem w.2 (List.mem_of_getElem? ht))
    · rw [if_neg h1] at h; cases h
theorem at_occ : ∀ (q : List Int) (t c : Tm), at? q t = some c → ∀ n ∈ occ c, n ∈ occ t
  | [], t, c, h, n, hn => by cases (show some t = some c from h); exact hn
  | k :: q, .var _, _, h, _, _ => nomatch h
  | k :: q, .app f ts, c, h, n, hn => by
    rw [at_cons_app] at h
    by_cases h1 : 1 ≤ k
    · rw [if_pos h1] at h
      cases ht : ts[(k - 1).toNat]? with
      | none => rw [ht] at h; cases h
      | some t =>
        rw [ht] at h
        exact occs_mem.mpr ⟨t, List.mem_of_getElem? ht, at_occ q t c h n hn⟩
    · rw [if_neg h1] at h; cases h
theorem at_len : ∀ (q : List Int) (t c : Tm), at? q t = some c → q.length + c.dep ≤ t.dep
  | [], t, c, h => by cases (show some t = some c from h); show 0 + t.dep ≤ t.dep; omega
  | k :: q, .var _, _, h => nomatch h
  | k :: q, .app f ts, c, h => by
    rw [at_cons_app] at h
    by_cases h1 : 1 ≤ k
    · rw [if_pos h1] at h
      cases ht : ts[(k - 1).toNat]? with
      | none => rw [ht] at h; cases h
      | some t =>
        rw [ht] at h
        have ih := at_len q t c h
        have := Tm.dep_of_mem (List.mem_of_getElem? ht)
        show q.length + 1 + c.dep ≤ 1 + Tm.deps ts
        omega
    · rw [if_neg h1] at h; cases h
theorem szs_set : ∀ (l : List Tm) (j : Nat) (x y : Tm), l[j]? = some y → Tm.szs (l.set j x) + y.sz = Tm.szs l + x.sz
  | [], j, x, y, h => by simp at h
  | a :: r, 0, x, y, h => by
    have h : a = y := by simpa using h
    subst h
    show x.sz + Tm.szs r + a.sz = a.sz + Tm.szs r + x.sz
    omega
  | a :: r, j + 1, x, y, h => by
    have := szs_set r j x y (by simpa using h)
    show a.sz + Tm.szs (r.set j x) + y.sz = a.sz + Tm.szs r + x.sz
    omega
/-- what goes and what comes -/
theorem rep_sz (u : Tm) : ∀ (q : List Int) (t c : Tm), at? q t = some c → (rep u q t).sz + c.sz = t.sz + u.sz
  | [], t, c, h => by cases (show some t = some c from h); show u.sz + t.sz = t.sz + u.sz; omega
  | k :: q, .var _, _, h => nomatch h
  | k :: q, .app f ts, c, h => by
    rw [at_cons_app] at h
    by_cases h1 : 1 ≤ k
    · rw [if_pos h1] at h
      cases ht : ts[(k - 1).toNat]? with
      | none => rw [ht] at h; cases h
      | some t =>
        rw [ht] at h
        have ih := rep_sz u q t c h
        have e : ts.getD (k - 1).toNat u = t := by rw [List.getD_eq_getElem?_getD, ht]; rfl
        have := szs_set ts (k - 1).toNat (rep u q t) t ht
        show 1 + Tm.szs (ts.set (k - 1).toNat (rep u q (ts.getD (k - 1).toNat u))) + c.sz = 1 + Tm.szs ts + u.sz
        rw [e]
        omega
    · rw [if_neg h1] at h; cases h
/-- the variables of a term in which something was put -/
theorem occ_rep (u : Tm) : ∀ (q : List Int) (t : Tm), IsPos q t → ∀ n, n ∈ occ (rep u q t) → n ∈ occ t ∨ n ∈ occ u
  | [], _, _, _, h => .inr h
  | k :: q, .var _, h, _, _ => h.elim
  | k :: q, .app f ts, ⟨h1, t, ht, hp⟩, n, hn => by
    have e : ts.getD (k - 1).toNat u = t := by rw [List.getD_eq_getElem?_getD, ht]; rfl
    have hn : n ∈ occs (ts.set (k - 1).toNat (rep u q (ts.getD (k - 1).toNat u))) := hn
    rw [e] at hn
    obtain ⟨w, hw, hn⟩ := occs_mem.mp hn
    rcases List.mem_or_eq_of_mem_set hw with z | z
    · exact .inl (occs_mem.mpr ⟨w, z, hn⟩)
    · rw [z] at hn
      rcases occ_rep u q t hp n hn with z | z
      · exact .inl (occs_mem.mpr ⟨t, List.mem_of_getElem? ht, z⟩)
      · exact .inr z
theorem occ_rep_in (u : Tm) : ∀ (q : List Int) (t : Tm), IsPos q t → ∀ n ∈ occ u, n ∈ occ (rep u q t)
  | [], _, _, _, h => h
  | k :: q, .var _, h, _, _ => h.elim
  | k :: q, .app f ts, ⟨h1, t, ht, hp⟩, n, hn => by
    have hk := (List.getElem?_eq_some_iff.mp ht).1
    have e : ts.getD (k - 1).toNat u = t := by rw [List.getD_eq_getElem?_getD, ht]; rfl
    show n ∈ occs (ts.set (k - 1).toNat (rep u q (ts.getD (k - 1).toNat u)))
    rw [e]
    exact occs_mem.mpr ⟨_, List.mem_set hk _, occ_rep_in u q t hp n hn⟩
/-- a place stays a place -/
theorem isPos_sub (m : Int → Option Tm) : ∀ (q : List Int) (t : Tm), IsPos q t → IsPos q (sub m t)
  | [], _, _ => trivial
  | k :: q, .var _, h => h.elim
  | k :: q, .app f ts, ⟨h1, t, ht, hp⟩ => ⟨h1, sub m t, by rw [subs_map, List.getElem?_map, ht]; rfl, isPos_sub m q t hp⟩
theorem sub_rep_out (m : Int → Option Tm) (u : Tm) : ∀ (q : List Int) (t : Tm), IsPos q t → sub m (rep u q t) = rep (sub m u) q (sub m t)
  | [], _, _ => rfl
  | k :: q, .var _, h => h.elim
  | k :: q, .app f ts, ⟨h1, t, ht, hp⟩ => by
    have e : ts.getD (k - 1).toNat u = t := by rw [List.getD_eq_getElem?_getD, ht]; rfl
    have e2 : (subs m ts).getD (k - 1).toNat (sub m u) = sub m t := by rw [List.getD_eq_getElem?_getD, subs_map, List.getElem?_map, ht]; rfl
    show Tm.app f (subs m (ts.set (k - 1).toNat (rep u q (ts.getD (k - 1).toNat u)))) = Tm.app f ((subs m ts).set (k - 1).toNat (rep (sub m u) q ((subs m ts).getD (k - 1).toNat (sub m u))))
    rw [e, e2, subs_map, List.map_set, sub_rep_out m u q t hp, ← subs_map]
/-- xs[-1] -/
theorem at_neg1 {xs : List V} {v : V} (h : xs[xs.length - 1]? = some v) : atI xs (0 - 1) = some v := by
  have hn : xs ≠ [] := fun z => by rw [z] at h; simp at h
  have h1 := List.dropLast_concat_getLast hn
  have h2 : xs.getLast hn = v := by rw [List.getLast_eq_getElem]; exact (List.getElem?_eq_some_iff.mp h).2
  rw [← h1, h2]; exact atI_last _ _
theorem pos_ints : ∀ (q : List Int) (t : Tm), IsPos q t → ∀ k ∈ q, 1 ≤ k ∧ k ≤ (t.sz : Int)
  | [], _, _, k, hk => nomatch hk
  | _ :: _, .var _, h, _, _ => h.elim
  | j :: q, .app f ts, ⟨h1, t, ht, hp⟩, k, hk => by
    have hl := (List.getElem?_eq_some_iff.mp ht).1
    have := Tm.len_le ts
    have h3 := Tm.sz_arg (List.mem_of_getElem? ht)
    show 1 ≤ k ∧ k ≤ ((1 + Tm.szs ts : Nat) : Int)
    rcases List.mem_cons.mp hk with e | hk
    · subst e; omega
    · have := pos_ints q t hp k hk
      omega
/-! lists without a number twice -/
theorem nd_below : ∀ (B : Nat) (l : List Int), l.Nodup → (∀ x ∈ l, 0 ≤ x ∧ x < (B : Int)) → l.length ≤ B
  | 0, [], _, _ => Nat.le_refl _
  | 0, x :: _, _, h => by have := h x (List.mem_cons_self ..); omega
  | B + 1, l, nd, h => by
    have h1 : ((l.erase (B : Int)).length) ≤ B := nd_below B _ (nd.erase _) fun x hx => by
      have h2 := h x (List.mem_of_mem_erase hx)
      have h3 : x ≠ (B : Int) := fun e => by rw [e] at hx; exact nd.not_mem_erase hx
      omega
    have h2 := List.length_erase (a := (B : Int)) (l := l)
    by_cases z : (B : Int) ∈ l
    · rw [if_pos z] at h2; omega
    · rw [if_neg z] at h2; omega
theorem nd_same {l1 l2 : List Int} (h1 : l1.Nodup) (h2 : l2.Nodup) (h : ∀ x, x ∈ l1 ↔ x ∈ l2) : l1.length = l2.length := ((List.perm_ext_iff_of_nodup h1 h2).mpr h).length_eq
/-! tables -/
theorem look_app : ∀ (a b : List (Int × Tm)) (n : Int), look (a ++ b) n = (look a n).or (look b n)
  | [], _, _ => rfl
  | x :: a, b, n => by
    show (if x.1 = n then some x.2 else look (a ++ b) n) = (if x.1 = n then some x.2 else look a n).or (look b n)
    by_cases e : x.1 = n
    · rw [if_pos e, if_pos e]; rfl
    · rw [if_neg e, if_neg e]; exact look_app a b n
theorem look_some {tb : List (Int × Tm)} {n : Int} : look tb n ≠ none ↔ n ∈ tb.map (·.1) := by
  induction tb with
  | nil => exact ⟨fun h => absurd rfl h, fun h => nomatch h⟩
  | cons x l ih =>
    show (if x.1 = n then some x.2 else look l n) ≠ none ↔ n ∈ x.1 :: l.map (·.1)
    by_cases e : x.1 = n
    · rw [if_pos e]; exact ⟨fun _ => by rw [e]; exact List.mem_cons_self .., fun _ z => nomatch z⟩
    · rw [if_neg e, ih, List.mem_cons]
      exact ⟨.inr, fun z => z.elim (fun z => absurd z.symm e) id⟩
theorem look_ids {l : List Int} {n : Int} (h : n ∈ l) : look (l.map fun n => (n, Tm.var n)) n = some (.var n) := by
  induction l with
  | nil => cases h
  | cons a r ih =>
    show (if a = n then some (Tm.var a) else look (r.map fun n => (n, Tm.var n)) n) = _
    by_cases e : a = n
    · rw [if_pos e, e]
    · rw [if_neg e]; exact ih ((List.mem_cons.mp h).elim (fun z => absurd z.symm e) id)
/-- a step of the document: the equation L = R with the values tb, at q, leads from t to t' -/
structure Stp (fs : List Str) (t t' : Tm) (fwd : Bool) (q : List Int) (tb : List (Int × Tm)) (L R : Tm) : Prop where
  hat : at? q t = some (sub (look tb) (if fwd then L else R))
  res : t' = rep (sub (look tb) (if fwd then R else L)) q t
  len : tb.length = (adds (vars L) (vars R)).length
  has : ∀ n ∈ adds (vars L) (vars R), look tb n ≠ none
  few : tb.length ≤ 10
  nd : (tb.map (·.1)).Nodup
  wl : L.wf fs 10
  wr : R.wf fs 10
  wt : ∀ x ∈ tb, (0 ≤ x.1 ∧ x.1 < 10) ∧ x.2.wf fs 9 ∧ x.2.sz ≤ t.sz + 4 ∧ x.2.dep ≤ t.dep + 2
  zl : L.sz ≤ t.sz + 5 ∧ L.dep ≤ t.dep + 2
  zr : R.sz ≤ t.sz + 5 ∧ R.dep ≤ t.dep + 2
  w' : t'.wf fs 9
  z' : t'.sz ≤ t.sz + 16
  d' : t'.dep ≤ t.dep + 2
  du : (sub (look tb) (if fwd then R else L)).dep ≤ (sub (look tb) (if fwd then L else R)).dep + 2
  zu : (sub (look tb) (if fwd then R else L)).sz ≤ t.sz + 16
/-- the table of a drawn step: what the law puts into it -/
theorem stp_of {fs : List Str} {t c0 c N N1 : Tm} {q q1 : List Int} {tb : List (Int × Tm)} {l : List (Int × Tm)} (wt : t.wf fs 9) (hq : at? q t = some c0) (hc : at? q1 c0 = some c)
    (htb : tb = (9, c) :: ((vars (rep (.var 9) q1 c0)).filter (· ≠ 9)).map (fun n => (n, Tm.var n)) ++ l) (nd : (tb.map (·.1)).Nodup) (hl : ∀ x ∈ l, x.1 ∈ vars N1 ∧ x.2.wf fs 9 ∧ x.2.sz ≤ 4 ∧ x.2.dep ≤ 2) (hN1 : ∀ n ∈ vars N1, n ∈ tb.map (·.1))
    (wN : N.wf fs 9) (zN : N.sz ≤ 4) (dN : N.dep ≤ 2) (hN : N1 = N ∨ ∃ q2, IsPos q2 N ∧ N1 = rep (.var 9) q2 N) (fwd : Bool) {L R : Tm} (eL : (if fwd then L else R) = rep (.var 9) q1 c0) (eR : (if fwd then R else L) = N1) :
    Stp fs t (rep (sub (look tb) N1) q t) fwd q tb L R := by
  have ip1 : IsPos q1 c0 := (isPos_at q1 c0).mpr ⟨c, hc⟩
  have ip : IsPos q t := (isPos_at q t).mpr ⟨c0, hq⟩
  have zc := at_sz _ _ _ hc
  have z0 := at_sz _ _ _ hq
  have l0 := at_len _ _ _ hq
  have l1 := at_len _ _ _ hc
  have w0 := at_wf _ _ _ hq wt
  have wc := at_wf _ _ _ hc w0
  have cp := c.dep_pos
  have c0p := c0.dep_pos
  have tp := t.dep_pos
  have cz := c.sz_pos
  have one : (Tm.var 9).sz = 1 := rfl
  have one' : (Tm.var 9).dep = 1 := rfl
  have w9 : (Tm.var 9).wf fs 10 := ⟨by decide, by decide⟩
  -- the old side
  have wO : (rep (.var 9) q1 c0).wf fs 10 := rep_wf w9 q1 c0 (w0.mono (by decide)) ip1
  have zO := rep_sz (.var 9) q1 c0 c hc
  have dO := (rep_dep (.var 9) q1 c0 ip1).1
  have o9 : (9 : Int) ∉ occ c0 := fun z => by have := (occ_wf c0 w0 9 z).2; omega
  have in9 : (9 : Int) ∈ occ (rep (.var 9) q1 c0) := occ_rep_in (.var 9) q1 c0 ip1 9 (List.mem_singleton.mpr rfl)
  have lk9 : look tb 9 = some c := by rw [htb]; rfl
  have lkO : ∀ n ∈ occ (rep (.var 9) q1 c0), n ≠ 9 → look tb n = some (.var n) := fun n hn ne => by
    rw [htb, look_app]
    have e : look ((9, c) :: ((vars (rep (.var 9) q1 c0)).filter (· ≠ 9)).map (fun n => (n, Tm.var n))) n = some (.var n) := by
      show (if (9 : Int) = n then some c else look (((vars (rep (.var 9) q1 c0)).filter (· ≠ 9)).map (fun n => (n, Tm.var n))) n) = _
      rw [if_neg (fun z => ne z.symm)]
      exact look_ids (List.mem_filter.mpr ⟨(vars_mem _ _).mpr hn, by simpa using ne⟩)
    rw [e]; rfl
  have sO : sub (look tb) (rep (.var 9) q1 c0) = c0 := sub_rep (look tb) (by rw [lk9]; rfl) q1 c0 hc o9 fun n hn ne => by rw [lkO n hn ne]; rfl
  -- the values
  have vals : ∀ x ∈ tb, (x.1 = 9 ∧ x.2 = c) ∨ (x.1 ≠ 9 ∧ x.1 ∈ vars (rep (.var 9) q1 c0) ∧ x.2 = .var x.1) ∨ x ∈ l := fun x hx => by
    rw [htb] at hx
    rcases List.mem_append.mp hx with h | h
    · rcases List.mem_cons.mp h with h | h
      · rw [h]; exact .inl ⟨rfl, rfl⟩
      · obtain ⟨n, hn, rfl⟩ := List.mem_map.mp h
        obtain ⟨h1, h2⟩ := List.mem_filter.mp hn
        exact .inr (.inl ⟨by simpa using h2, h1, rfl⟩)
    · exact .inr (.inr h)
  have wO9 : ∀ n ∈ occ (rep (.var 9) q1 c0), n ≠ 9 → 0 ≤ n ∧ n < 9 := fun n hn ne => by
    rcases occ_rep (.var 9) q1 c0 ip1 n hn with z | z
    · exact occ_wf c0 w0 n z
    · exact absurd (List.mem_singleton.mp z) ne
  have wN1 : N1.wf fs 10 := by
    rcases hN with e | ⟨q2, ip2, e⟩
    · rw [e]; exact wN.mono (by decide)
    · rw [e]; exact rep_wf w9 q2 N (wN.mono (by decide)) ip2
  have wvals : ∀ x ∈ tb, (0 ≤ x.1 ∧ x.1 < 10) ∧ x.2.wf fs 9 ∧ x.2.sz ≤ t.sz + 4 ∧ x.2.dep ≤ t.dep + 2 := fun x hx => by
    rcases vals x hx with ⟨h1, h2⟩ | ⟨h1, h2, h3⟩ | h
    · rw [h1, h2]; exact ⟨by decide, wc, by omega, by omega⟩
    · have := wO9 x.1 ((vars_mem _ _).mp h2) h1
      have e1 : x.2.sz = 1 := by rw [h3]; rfl
      have e2 : x.2.dep = 1 := by rw [h3]; rfl
      have e3 : x.2.wf fs 9 := by rw [h3]; exact this
      exact ⟨by omega, e3, by omega, by omega⟩
    · obtain ⟨h1, h2, h3, h4⟩ := hl x h
      have := occ_wf N1 wN1 x.1 ((vars_mem _ _).mp h1)
      exact ⟨this, h2, by omega, by omega⟩
  have low : ∀ n, n ≠ 9 → ((look tb n).getD (.var n)).sz ≤ 4 ∧ ((look tb n).getD (.var n)).dep ≤ 1 + 1 := fun n ne => by
    cases e : look tb n with
    | none => exact ⟨by show 1 ≤ 4; decide, by show 1 ≤ 2; decide⟩
    | some u =>
      have h := vals _ (look_mem e)
      rcases h with ⟨h1, _⟩ | ⟨_, _, h3⟩ | h
      · exact absurd h1 ne
      · have h3 : u = .var n := h3
        rw [h3]; exact ⟨by show 1 ≤ 4; decide, by show 1 ≤ 2; decide⟩
      · exact ⟨(hl _ h).2.2.1, (hl _ h).2.2.2⟩
  have nN : ∀ n ∈ occ N, n ≠ 9 := fun n hn z => by have := (occ_wf N wN n hn).2; omega
  have sN := sub_szM (look tb) 4 1 (by decide) N fun n hn => low n (nN n hn)
  have wfv : ∀ n, n ∈ tb.map (·.1) → ((look tb n).getD (.var n)).wf fs 9 := fun n hn => by
    cases e : look tb n with
    | none => exact absurd e (look_some.mpr hn)
    | some u => exact (wvals _ (look_mem e)).2.1
  have wU : (sub (look tb) N1).wf fs 9 := sub_wf (look tb) N1 wN1 fun n hn => wfv n (hN1 n ((vars_mem _ _).mpr hn))
  have zU : (sub (look tb) N1).sz ≤ c.sz + 16 ∧ (sub (look tb) N1).dep ≤ max 3 (1 + c.dep) := by
    rcases hN with e | ⟨q2, ip2, e⟩
    · rw [e]; omega
    · obtain ⟨u2, hu2⟩ := (isPos_at q2 N).mp ip2
      have l2 := at_len _ _ _ hu2
      have p2 := u2.dep_pos
      have e1 : sub (look tb) (.var 9) = c := by show (look tb 9).getD (.var 9) = c; rw [lk9]; rfl
      rw [e, sub_rep_out (look tb) (.var 9) q2 N ip2, e1]
      have := rep_dep c q2 (sub (look tb) N) (isPos_sub (look tb) q2 N ip2)
      omega
  have zN1 : N1.sz ≤ 5 ∧ N1.dep ≤ 2 := by
    rcases hN with e | ⟨q2, ip2, e⟩
    · rw [e]; omega
    · obtain ⟨u2, hu2⟩ := (isPos_at q2 N).mp ip2
      have l2 := at_len _ _ _ hu2
      have p2 := u2.dep_pos
      have := rep_dep (.var 9) q2 N ip2
      rw [e]; omega
  have rz := rep_sz (sub (look tb) N1) q t c0 hq
  have rd := (rep_dep (sub (look tb) N1) q t ip).1
  have keys : ∀ n, n ∈ tb.map (·.1) ↔ n ∈ occ (rep (.var 9) q1 c0) ∨ n ∈ occ N1 := fun n => by
    constructor
    · intro h
      obtain ⟨x, hx, rfl⟩ := List.mem_map.mp h
      rcases vals x hx with ⟨h1, _⟩ | ⟨_, h2, _⟩ | h
      · rw [h1]; exact .inl in9
      · exact .inl ((vars_mem _ _).mp h2)
      · exact .inr ((vars_mem _ _).mp (hl x h).1)
    · rintro (h | h)
      · by_cases ne : n = 9
        · rw [ne]; exact look_some.mp (by rw [lk9]; exact fun z => nomatch z)
        · exact look_some.mp (by rw [lkO n h ne]; exact fun z => nomatch z)
      · exact hN1 n ((vars_mem _ _).mpr h)
  have memLR : ∀ n, n ∈ adds (vars L) (vars R) ↔ n ∈ tb.map (·.1) := fun n => by
    rw [adds_mem, vars_mem, vars_mem, keys]
    cases fwd
    · rw [← show R = rep (.var 9) q1 c0 from eL, ← show L = N1 from eR]; exact Or.comm
    · rw [← show L = rep (.var 9) q1 c0 from eL, ← show R = N1 from eR]
  have ln : tb.length = (adds (vars L) (vars R)).length := by
    rw [← List.length_map (f := fun x : Int × Tm => x.1)]
    exact nd_same nd (adds_nodup _ _ (adds_nodup _ _ List.nodup_nil)) fun n => (memLR n).symm
  have fw : tb.length ≤ 10 := by
    rw [← List.length_map (f := fun x : Int × Tm => x.1)]
    refine nd_below 10 _ nd fun n hn => ?_
    obtain ⟨x, hx, rfl⟩ := List.mem_map.mp hn
    exact (wvals x hx).1
  have two : (L.wf fs 10 ∧ L.sz ≤ t.sz + 5 ∧ L.dep ≤ t.dep + 2) ∧ (R.wf fs 10 ∧ R.sz ≤ t.sz + 5 ∧ R.dep ≤ t.dep + 2) := by
    have hO : (rep (.var 9) q1 c0).wf fs 10 ∧ (rep (.var 9) q1 c0).sz ≤ t.sz + 5 ∧ (rep (.var 9) q1 c0).dep ≤ t.dep + 2 := ⟨wO, by omega, by omega⟩
    have hN : N1.wf fs 10 ∧ N1.sz ≤ t.sz + 5 ∧ N1.dep ≤ t.dep + 2 := ⟨wN1, by omega, by omega⟩
    cases fwd
    · rw [show R = rep (.var 9) q1 c0 from eL, show L = N1 from eR]; exact ⟨hN, hO⟩
    · rw [show L = rep (.var 9) q1 c0 from eL, show R = N1 from eR]; exact ⟨hO, hN⟩
  refine { hat := by rw [eL, sO]; exact hq, res := by rw [eR], len := ln, has := fun n hn => look_some.mpr ((memLR n).mp hn), few := fw, nd := nd, wl := two.1.1, wr := two.2.1, wt := wvals, zl := two.1.2, zr := two.2.2, w' := rep_wf wU q t wt ip, z' := by omega, d' := by omega, du := by rw [eR, eL, sO]; omega, zu := by rw [eR]; omega }
end J

namespace J
open PySem L2
/-! ### while xs:, the measure told by the invariant -/
theorem least_of (P : Nat → Prop) (h : ∃ m, P m) : ∃ m, P m ∧ ∀ k, P k → m ≤ k := by
  obtain ⟨m, hm⟩ := h
  induction m using Nat.strongRecOn with
  | _ m ih =>
    by_cases z : ∃ k, k < m ∧ P k
    · obtain ⟨k, hk, pk⟩ := z
      exact ih k hk pk
    · exact ⟨m, hm, fun k pk => Nat.le_of_not_lt fun hk => z ⟨k, hk, pk⟩⟩
open Classical in
noncomputable def mu (P : Nat → L2.St → Hp → Prop) (σ : L2.St) (H : Hp) : Nat := if h : ∃ m, P m σ H then Classical.choose (least_of _ h) else 0
theorem mu_at {P : Nat → L2.St → Hp → Prop} {σ : L2.St} {H : Hp} (h : ∃ m, P m σ H) : P (mu P σ H) σ H := by
  unfold mu
  rw [dif_pos h]
  exact (Classical.choose_spec (least_of _ h)).1
theorem mu_le {P : Nat → L2.St → Hp → Prop} {σ : L2.St} {H : Hp} {m : Nat} (h : P m σ H) : mu P σ H ≤ m := by
  unfold mu
  rw [dif_pos ⟨m, h⟩]
  exact (Classical.choose_spec (least_of _ ⟨m, h⟩)).2 m h
/-- what a turn leaves -/
def WLess (P : Nat → L2.St → Hp → Prop) (m : Nat) (σ : L2.St) (H : Hp) : Prop := (∃ k, P k σ H) ∧ mu P σ H < m
theorem less_of {P : Nat → L2.St → Hp → Prop} {m k : Nat} {σ : L2.St} {H : Hp} (h : P k σ H) (hk : k < m) : WLess P m σ H := ⟨⟨k, h⟩, Nat.lt_of_le_of_lt (mu_le h) hk⟩
theorem while_listM {K : PySem.W.Frag} {i : Nat} {tb : TS} {D : Ends} {σ : L2.St} {H : Hp} (P : Nat → L2.St → Hp → Prop) (m0 : Nat) (h0 : P m0 σ H)
    (hs : ∀ m σ H, P m σ H → ∃ p xs, σ[i]? = some (some (.ref p)) ∧ H p = some (.lst xs) ∧ (xs = [] → D.nx σ H) ∧ (xs ≠ [] → tb { D with nx := WLess P m, ct := WLess P m, bk := D.nx } σ H)) :
    tWhile (fun σ H Q => tVar i σ H fun x H' => ∃ k, TruV K x H' k ∧ Q k H') tb D σ H :=
  while_list (fun σ H => ∃ m, P m σ H) (mu P) ⟨m0, h0⟩ fun σ H p => hs _ σ H (mu_at p)
end J

/-! ### how often and how deep the variables of a term stand; for k, v in d.items() -/
namespace J
open PySem L2
mutual
/-- the variables with their levels, the whole at level k -/
def olv (k : Nat) : Tm → List (Int × Nat)
  | .var n => [(n, k)]
  | .app _ ts => olvs (k + 1) ts
def olvs (k : Nat) : List Tm → List (Int × Nat)
  | [] => []
  | t :: ts => olv k t ++ olvs k ts
end
theorem olvs_app (k : Nat) : ∀ a b : List Tm, olvs k (a ++ b) = olvs k a ++ olvs k b
  | [], _ => rfl
  | t :: a, b => by show olv k t ++ olvs k (a ++ b) = (olv k t ++ olvs k a) ++ olvs k b; rw [olvs_app k a b, List.append_assoc]
mutual
theorem olv_occ (k : Nat) : ∀ t : Tm, (olv k t).map (·.1) = occ t
  | .var _ => rfl
  | .app _ ts => olvs_occ (k + 1) ts
theorem olvs_occ (k : Nat) : ∀ ts : List Tm, (olvs k ts).map (·.1) = occs ts
  | [] => rfl
  | t :: ts => by show (olv k t ++ olvs k ts).map _ = _; rw [List.map_append, olv_occ k t, olvs_occ k ts]; rfl
end
/-- sums and greatest depths over such a list -/
def osum (w : Int → Nat) (l : List (Int × Nat)) : Nat := (l.map fun x => w x.1).sum
def omx (d : Int → Nat) : List (Int × Nat) → Nat
  | [] => 0
  | x :: r => max (x.2 - 1 + d x.1) (omx d r)
theorem osum_app (w : Int → Nat) (a b : List (Int × Nat)) : osum w (a ++ b) = osum w a + osum w b := by unfold osum; rw [List.map_append, List.sum_append]
theorem omx_app (d : Int → Nat) : ∀ a b : List (Int × Nat), omx d (a ++ b) = max (omx d a) (omx d b)
  | [], b => (Nat.zero_max _).symm
  | x :: a, b => by show max _ (omx d (a ++ b)) = max (max _ (omx d a)) _; rw [omx_app d a b]; omega
theorem osum_perm (w : Int → Nat) {a b : List (Int × Nat)} (h : a.Perm b) : osum w a = osum w b := (h.map _).sum_nat
theorem omx_perm (d : Int → Nat) {a b : List (Int × Nat)} (h : a.Perm b) : omx d a = omx d b := by
  induction h with
  | nil => rfl
  | cons x _ ih => show max _ _ = max _ _; rw [ih]
  | swap x y l => show max _ (max _ _) = max _ (max _ _); omega
  | trans _ _ ih1 ih2 => exact ih1.trans ih2
mutual
theorem sub_szE (m : Int → Option Tm) : ∀ (k : Nat) (t : Tm), (sub m t).sz = t.sz + osum (fun n => ((m n).getD (.var n)).sz - 1) (olv k t)
  | k, .var n => by
    have := Tm.sz_pos ((m n).getD (.var n))
    show ((m n).getD (.var n)).sz = 1 + (((m n).getD (.var n)).sz - 1 + 0)
    omega
  | k, .app _ ts => by
    have := subs_szE m (k + 1) ts
    show 1 + Tm.szs (subs m ts) = (1 + Tm.szs ts) + osum _ (olvs (k + 1) ts)
    omega
theorem subs_szE (m : Int → Option Tm) : ∀ (k : Nat) (ts : List Tm), Tm.szs (subs m ts) = Tm.szs ts + osum (fun n => ((m n).getD (.var n)).sz - 1) (olvs k ts)
  | _, [] => rfl
  | k, t :: ts => by
    have h1 := sub_szE m k t
    have h2 := subs_szE m k ts
    show (sub m t).sz + Tm.szs (subs m ts) = (t.sz + Tm.szs ts) + osum _ (olv k t ++ olvs k ts)
    rw [osum_app]
    omega
end
mutual
theorem sub_depE (m : Int → Option Tm) : ∀ (k : Nat) (t : Tm), k + (sub m t).dep = max (k + t.dep) (omx (fun n => ((m n).getD (.var n)).dep) (olv (k + 1) t))
  | k, .var n => by
    have := Tm.dep_pos ((m n).getD (.var n))
    show k + ((m n).getD (.var n)).dep = max (k + 1) (max (k + 1 - 1 + ((m n).getD (.var n)).dep) 0)
    omega
  | k, .app _ ts => by
    have := subs_depE m (k + 1) ts
    show k + (1 + Tm.deps (subs m ts)) = max (k + (1 + Tm.deps ts)) (omx _ (olvs (k + 1 + 1) ts))
    omega
theorem subs_depE (m : Int → Option Tm) : ∀ (k : Nat) (ts : List Tm), k + Tm.deps (subs m ts) = max (k + Tm.deps ts) (omx (fun n => ((m n).getD (.var n)).dep) (olvs (k + 1) ts))
  | k, [] => by show k + 0 = max (k + 0) 0; omega
  | k, t :: ts => by
    have h1 := sub_depE m k t
    have h2 := subs_depE m k ts
    show k + max (sub m t).dep (Tm.deps (subs m ts)) = max (k + max t.dep (Tm.deps ts)) (omx _ (olv (k + 1) t ++ olvs (k + 1) ts))
    rw [omx_app]
    omega
end
/-- the next row of a walk by levels -/
def kidsOf : List Tm → List Tm
  | [] => []
  | .var _ :: r => kidsOf r
  | .app _ ts :: r => ts ++ kidsOf r
def varsAt (k : Nat) : List Tm → List (Int × Nat)
  | [] => []
  | .var n :: r => (n, k) :: varsAt k r
  | .app _ _ :: r => varsAt k r
theorem varsAt_app (k : Nat) : ∀ a b : List Tm, varsAt k (a ++ b) = varsAt k a ++ varsAt k b
  | [], _ => rfl
  | .var n :: a, b => congrArg _ (varsAt_app k a b)
  | .app _ _ :: a, b => varsAt_app k a b
theorem row_perm (k : Nat) : ∀ r : List Tm, (varsAt k r ++ olvs (k + 1) (kidsOf r)).Perm (olvs k r)
  | [] => List.Perm.refl _
  | .var n :: r => (row_perm k r).cons _
  | .app _ ts :: r => by
    show (varsAt k r ++ olvs (k + 1) (ts ++ kidsOf r)).Perm (olvs (k + 1) ts ++ olvs k r)
    rw [olvs_app]
    refine List.Perm.trans ?_ ((row_perm k r).append_left _)
    rw [← List.append_assoc, ← List.append_assoc]
    exact (List.perm_append_comm (l₁ := varsAt k r) (l₂ := olvs (k + 1) ts)).append_right _
/-! tallies -/
abbrev Tl := List (Int × Nat × Nat)
def tput (tl : Tl) (n : Int) (l : Nat) : Tl := if n ∈ tl.map (·.1) then tl.map (fun x => if x.1 = n then (x.1, x.2.1 + 1, l) else x) else tl ++ [(n, 1, l)]
def tsum (w : Int → Nat) (tl : Tl) : Nat := (tl.map fun x => x.2.1 * w x.1).sum
def tmx (d : Int → Nat) : Tl → Nat
  | [] => 0
  | x :: r => max (x.2.2 - 1 + d x.1) (tmx d r)
theorem tmx_app (d : Int → Nat) : ∀ a b : Tl, tmx d (a ++ b) = max (tmx d a) (tmx d b)
  | [], b => (Nat.zero_max _).symm
  | x :: a, b => by show max _ (tmx d (a ++ b)) = max (max _ (tmx d a)) _; rw [tmx_app d a b]; omega
theorem tput_keys (tl : Tl) (n : Int) (l : Nat) : (tput tl n l).map (·.1) = if n ∈ tl.map (·.1) then tl.map (·.1) else tl.map (·.1) ++ [n] := by
  unfold tput
  by_cases h : n ∈ tl.map (·.1)
  · rw [if_pos h, if_pos h, List.map_map]
    refine List.map_congr_left fun x _ => ?_
    show (if x.1 = n then (x.1, x.2.1 + 1, l) else x).1 = x.1
    split <;> rfl
  · rw [if_neg h, if_neg h, List.map_append]; rfl
theorem map_no (tl : Tl) (n : Int) (l : Nat) (h : n ∉ tl.map (·.1)) : tl.map (fun x => if x.1 = n then (x.1, x.2.1 + 1, l) else x) = tl := by
  refine (List.map_congr_left fun x hx => ?_).trans (List.map_id _)
  exact if_neg fun z => h (List.mem_map.mpr ⟨x, hx, z⟩)
theorem tsum_put (w : Int → Nat) (n : Int) (l : Nat) : ∀ tl : Tl, (tl.map (·.1)).Nodup → tsum w (tput tl n l) = tsum w tl + w n := by
  intro tl nd
  unfold tput
  by_cases h : n ∈ tl.map (·.1)
  · rw [if_pos h]
    induction tl with
    | nil => cases h
    | cons x r ih =>
      rw [List.map_cons, List.nodup_cons] at nd
      by_cases e : x.1 = n
      · subst e
        rw [List.map_cons, if_pos rfl, map_no r x.1 l nd.1]
        show (x.2.1 + 1) * w x.1 + tsum w r = x.2.1 * w x.1 + tsum w r + w x.1
        rw [Nat.add_mul, Nat.one_mul]; omega
      · rw [List.map_cons, if_neg e]
        have h : n ∈ r.map (·.1) := by
          rw [List.map_cons] at h
          exact (List.mem_cons.mp h).resolve_left fun z => e z.symm
        have := ih nd.2 h
        show x.2.1 * w x.1 + tsum w _ = x.2.1 * w x.1 + tsum w r + w n
        omega
  · rw [if_neg h]
    unfold tsum
    rw [List.map_append, List.sum_append]
    show _ + (1 * w n + 0) = _
    omega
theorem tmx_put (d : Int → Nat) (n : Int) (l : Nat) : ∀ tl : Tl, (tl.map (·.1)).Nodup → (∀ x ∈ tl, x.2.2 ≤ l) → tmx d (tput tl n l) = max (tmx d tl) (l - 1 + d n) := by
  intro tl nd hl
  unfold tput
  by_cases h : n ∈ tl.map (·.1)
  · rw [if_pos h]
    induction tl with
    | nil => cases h
    | cons x r ih =>
      rw [List.map_cons, List.nodup_cons] at nd
      have hx := hl x (List.mem_cons_self ..)
      by_cases e : x.1 = n
      · subst e
        rw [List.map_cons, if_pos rfl, map_no r x.1 l nd.1]
        show max (l - 1 + d x.1) (tmx d r) = max (max (x.2.2 - 1 + d x.1) (tmx d r)) (l - 1 + d x.1)
        omega
      · rw [List.map_cons, if_neg e]
        have h : n ∈ r.map (·.1) := by
          rw [List.map_cons] at h
          exact (List.mem_cons.mp h).resolve_left fun z => e z.symm
        have := ih nd.2 (fun y hy => hl y (List.mem_cons_of_mem _ hy)) h
        show max (x.2.2 - 1 + d x.1) (tmx d _) = max (max (x.2.2 - 1 + d x.1) (tmx d r)) _
        omega
  · rw [if_neg h, tmx_app]
    show max _ (max (l - 1 + d n) 0) = _
    omega
/-- tl counts ols, whose levels are at most L -/
structure Tal (L : Nat) (tl : Tl) (ols : List (Int × Nat)) : Prop where
  nd : (tl.map (·.1)).Nodup
  lv : ∀ x ∈ tl, x.2.2 ≤ L
  lo : ∀ x ∈ tl, 1 ≤ x.2.2
  sum : ∀ w, tsum w tl = osum w ols
  mx : ∀ d, tmx d tl = omx d ols
  mem : ∀ n, n ∈ tl.map (·.1) ↔ n ∈ ols.map (·.1)
  ct : ∀ x ∈ tl, x.2.1 ≤ ols.length
  len : tl.length ≤ ols.length
theorem Tal.nil : Tal 0 [] [] := ⟨List.nodup_nil, (fun _ h => nomatch h), (fun _ h => nomatch h), fun _ => rfl, fun _ => rfl, fun _ => Iff.rfl, (fun _ h => nomatch h), Nat.le_refl _⟩
theorem Tal.mono {L M : Nat} {tl : Tl} {ols : List (Int × Nat)} (h : Tal L tl ols) (le : L ≤ M) : Tal M tl ols := ⟨h.nd, fun x hx => Nat.le_trans (h.lv x hx) le, h.lo, h.sum, h.mx, h.mem, h.ct, h.len⟩
theorem Tal.perm {L : Nat} {tl : Tl} {a b : List (Int × Nat)} (h : Tal L tl a) (p : a.Perm b) : Tal L tl b :=
  ⟨h.nd, h.lv, h.lo, fun w => (h.sum w).trans (osum_perm w p), fun d => (h.mx d).trans (omx_perm d p), fun n => (h.mem n).trans (p.map _).mem_iff, fun x hx => by rw [← p.length_eq]; exact h.ct x hx, by rw [← p.length_eq]; exact h.len⟩
theorem Tal.put {L : Nat} {tl : Tl} {ols : List (Int × Nat)} (h : Tal L tl ols) (n : Int) (hL : 1 ≤ L) : Tal L (tput tl n L) (ols ++ [(n, L)]) := by
  refine ⟨?_, fun x hx => ?_, fun x hx => ?_, fun w => ?_, fun d => ?_, fun k => ?_, fun x hx => ?_, ?_⟩
  · rw [tput_keys]
    by_cases z : n ∈ tl.map (·.1)
    · rw [if_pos z]; exact h.nd
    · rw [if_neg z]
      refine List.nodup_append.mpr ⟨h.nd, (by simp), fun a ha b hb => ?_⟩
      rw [List.mem_singleton] at hb
      exact fun e => z (by rw [← hb, ← e]; exact ha)
  · unfold tput at hx
    split at hx
    · obtain ⟨y, hy, e⟩ := List.mem_map.mp hx
      rw [← e]
      split
      · exact Nat.le_refl _
      · exact h.lv y hy
    · rcases List.mem_append.mp hx with hx | hx
      · exact h.lv x hx
      · rw [List.mem_singleton.mp hx]; exact Nat.le_refl _
  · unfold tput at hx
    split at hx
    · obtain ⟨y, hy, e⟩ := List.mem_map.mp hx
      rw [← e]
      split
      · exact hL
      · exact h.lo y hy
    · rcases List.mem_append.mp hx with hx | hx
      · exact h.lo x hx
      · rw [List.mem_singleton.mp hx]; exact hL
  · rw [tsum_put w n L tl h.nd, h.sum, osum_app]; rfl
  · rw [tmx_put d n L tl h.nd h.lv, h.mx, omx_app]
    show _ = max _ (max (L - 1 + d n) 0)
    omega
  · rw [tput_keys, List.map_append, List.mem_append, ← h.mem k]
    by_cases z : n ∈ tl.map (·.1)
    · rw [if_pos z]
      exact ⟨.inl, fun w => w.elim id fun w => by rw [List.mem_singleton.mp w]; exact z⟩
    · rw [if_neg z, List.mem_append]; exact Iff.rfl
  · unfold tput at hx
    rw [List.length_append, List.length_singleton]
    split at hx
    · obtain ⟨y, hy, e⟩ := List.mem_map.mp hx
      have := h.ct y hy
      rw [← e]
      split
      · show y.2.1 + 1 ≤ _; omega
      · omega
    · rcases List.mem_append.mp hx with hx | hx
      · have := h.ct x hx; omega
      · rw [List.mem_singleton.mp hx]; show 1 ≤ _; omega
  · have e : (tput tl n L).length ≤ tl.length + 1 := by
      unfold tput
      split
      · rw [List.length_map]; omega
      · rw [List.length_append]; exact Nat.le_refl _
    have := h.len
    rw [List.length_append, List.length_singleton]; omega
/-- the dict holds the tally -/
def TalIn (H : Hp) : List (Key × V) → Tl → Prop
  | [], [] => True
  | kv :: r, x :: l => kv.1 = .inl x.1 ∧ (∃ a, kv.2 = .ref a ∧ H a = some (.tup [.int (x.2.1 : Int), .int (x.2.2 : Int)])) ∧ TalIn H r l
  | _, _ => False
theorem TalIn.tu {H H' : Hp} (t : Tu H H') : ∀ {kvs : List (Key × V)} {tl : Tl}, TalIn H kvs tl → TalIn H' kvs tl
  | [], [], _ => trivial
  | [], _ :: _, h => h.elim
  | _ :: _, [], h => h.elim
  | _ :: _, _ :: _, ⟨e, ⟨a, e2, h⟩, r⟩ => ⟨e, ⟨a, e2, t _ _ h⟩, TalIn.tu t r⟩
theorem TalIn.length {H : Hp} : ∀ {kvs : List (Key × V)} {tl : Tl}, TalIn H kvs tl → kvs.length = tl.length
  | [], [], _ => rfl
  | [], _ :: _, h => h.elim
  | _ :: _, [], h => h.elim
  | _ :: _, _ :: _, h => congrArg (· + 1) (TalIn.length h.2.2)
theorem TalIn.keys {H : Hp} : ∀ {kvs : List (Key × V)} {tl : Tl}, TalIn H kvs tl → kvs.map (·.1) = (tl.map (·.1)).map Sum.inl
  | [], [], _ => rfl
  | [], _ :: _, h => h.elim
  | _ :: _, [], h => h.elim
  | _ :: _, _ :: _, h => by rw [List.map_cons, List.map_cons, List.map_cons, h.1, TalIn.keys h.2.2]
theorem TalIn.get {H : Hp} : ∀ {kvs : List (Key × V)} {tl : Tl} {i : Nat} {k : Key} {v : V}, TalIn H kvs tl → kvs[i]? = some (k, v) → ∃ (x : Int × Nat × Nat) (a : Addr), tl[i]? = some x ∧ k = .inl x.1 ∧ v = .ref a ∧ H a = some (.tup [.int (x.2.1 : Int), .int (x.2.2 : Int)])
  | [], _, i, _, _, _, e => by simp at e
  | _ :: _, [], _, _, _, h, _ => h.elim
  | kv :: r, x :: l, 0, k, v, h, e => by
    have e : kv = (k, v) := by simpa using e
    subst e
    obtain ⟨e1, ⟨a, e2, e3⟩, _⟩ := h
    exact ⟨x, a, rfl, e1, e2, e3⟩
  | kv :: r, x :: l, i + 1, k, v, h, e => by
    obtain ⟨y, a, h1, h2⟩ := TalIn.get (i := i) (k := k) (v := v) h.2.2 (by simpa using e)
    exact ⟨y, a, by simpa using h1, h2⟩
theorem TalIn.hasnt {H : Hp} (n : Int) : ∀ {kvs : List (Key × V)} {tl : Tl}, TalIn H kvs tl → valV kvs (.inl n) = none → n ∉ tl.map (·.1)
  | [], [], _, _ => fun z => nomatch z
  | [], _ :: _, h, _ => h.elim
  | _ :: _, [], h, _ => h.elim
  | kv :: r, x :: l, h, e => by
    by_cases z : kv.1 = .inl n
    · rw [valV_pos z] at e; cases e
    · rw [valV_neg z] at e
      have := TalIn.hasnt n h.2.2 e
      rw [List.map_cons]
      exact fun w => (List.mem_cons.mp w).elim (fun w => z (by rw [h.1, w])) this
theorem TalIn.has {H : Hp} (n : Int) : ∀ {kvs : List (Key × V)} {tl : Tl} {v : V}, (tl.map (·.1)).Nodup → TalIn H kvs tl → valV kvs (.inl n) = some v → ∃ (c l : Nat) (a : Addr), v = .ref a ∧ H a = some (.tup [.int (c : Int), .int (l : Int)]) ∧ (n, c, l) ∈ tl ∧ ∀ x ∈ tl, x.1 = n → x = (n, c, l)
  | [], [], _, _, _, e => nomatch e
  | [], _ :: _, _, _, h, _ => h.elim
  | _ :: _, [], _, _, h, _ => h.elim
  | kv :: r, x :: l, v, nd, h, e => by
    obtain ⟨e1, ⟨a, e2, e3⟩, hr⟩ := h
    rw [List.map_cons, List.nodup_cons] at nd
    by_cases z : kv.1 = .inl n
    · rw [valV_pos z] at e
      rw [e1] at z
      injection z with z
      subst z
      refine ⟨x.2.1, x.2.2, a, (Option.some.inj e).symm.trans e2, e3, List.mem_cons_self .., fun y hy ey => ?_⟩
      rcases List.mem_cons.mp hy with w | w
      · exact w
      · exact absurd (List.mem_map.mpr ⟨y, w, ey⟩) nd.1
    · rw [valV_neg z] at e
      obtain ⟨c, l0, a0, q1, q2, q3, q4⟩ := TalIn.has n nd.2 hr e
      refine ⟨c, l0, a0, q1, q2, List.mem_cons_of_mem _ q3, fun y hy ey => ?_⟩
      rcases List.mem_cons.mp hy with w | w
      · exact absurd (show kv.1 = .inl n by rw [e1, ← w, ey]) z
      · exact q4 y w ey
theorem TalIn.put {H H' : Hp} {n : Int} {L c : Nat} {a : Addr} (t : Tu H H') (ha : H' a = some (.tup [.int (c : Int), .int (L : Int)])) : ∀ {kvs : List (Key × V)} {tl : Tl}, TalIn H kvs tl → (∀ x ∈ tl, x.1 = n → x.2.1 + 1 = c) → (n ∉ tl.map (·.1) → c = 1) → TalIn H' (putK kvs (.inl n) (.ref a)) (tput tl n L) := by
  intro kvs tl h h1 h2
  have hk := h.keys
  have key : n ∈ tl.map (·.1) ↔ (kvs.any fun kv => decide (kv.1 = (Sum.inl n : Key))) = true := by
    rw [List.any_eq_true]
    constructor
    · intro z
      have : (Sum.inl n : Key) ∈ kvs.map (·.1) := by rw [hk]; exact List.mem_map.mpr ⟨n, z, rfl⟩
      obtain ⟨kv, q, e⟩ := List.mem_map.mp this
      exact ⟨kv, q, decide_eq_true e⟩
    · rintro ⟨kv, q, e⟩
      have : (Sum.inl n : Key) ∈ (tl.map (·.1)).map Sum.inl := by rw [← hk]; exact List.mem_map.mpr ⟨kv, q, of_decide_eq_true e⟩
      obtain ⟨y, hy, e⟩ := List.mem_map.mp this
      cases e; exact hy
  unfold putK tput
  by_cases z : n ∈ tl.map (·.1)
  · rw [if_pos z, if_pos (key.mp z)]
    clear key hk h2 z
    induction kvs generalizing tl with
    | nil => cases tl with | nil => exact trivial | cons _ _ => exact h.elim
    | cons kv r ih =>
      cases tl with
      | nil => exact h.elim
      | cons x l =>
        obtain ⟨e1, ⟨b, e2, e3⟩, hr⟩ := h
        rw [List.map_cons, List.map_cons]
        refine ⟨?_, ?_, ih hr fun y hy => h1 y (List.mem_cons_of_mem _ hy)⟩
        · by_cases w : x.1 = n
          · rw [if_pos w, if_pos (by rw [e1, w])]; exact e1
          · rw [if_neg w, if_neg fun q => w (by rw [e1] at q; exact Sum.inl.inj q)]; exact e1
        · by_cases w : x.1 = n
          · rw [if_pos w, if_pos (by rw [e1, w])]
            exact ⟨a, rfl, by show H' a = some (.tup [.int ((x.2.1 + 1 : Nat) : Int), .int (L : Int)]); rw [h1 x (List.mem_cons_self ..) w]; exact ha⟩
          · rw [if_neg w, if_neg fun q => w (by rw [e1] at q; exact Sum.inl.inj q)]; exact ⟨b, e2, t _ _ e3⟩
  · rw [if_neg z, if_neg fun q => z (key.mpr q)]
    have := h2 z
    subst this
    clear key hk h1 h2 z
    induction kvs generalizing tl with
    | nil => cases tl with | nil => exact ⟨rfl, ⟨a, rfl, ha⟩, trivial⟩ | cons _ _ => exact h.elim
    | cons kv r ih =>
      cases tl with
      | nil => exact h.elim
      | cons x l =>
        obtain ⟨e1, ⟨b, e2, e3⟩, hr⟩ := h
        exact ⟨e1, ⟨b, e2, t _ _ e3⟩, ih hr⟩
/-- a term's profile at p, its tally tl at x -/
def ProIn (H : Hp) (p : Addr) (t : Tm) (x : Addr) (tl : Tl) : Prop := H p = some (.tup [.int (t.sz : Int), .int (t.dep : Int), .ref x]) ∧ ∃ kvs, H x = some (.dK kvs) ∧ TalIn H kvs tl ∧ Tal t.dep tl (olv 1 t)
theorem ProIn.td {H H' : Hp} {p x : Addr} {t : Tm} {tl : Tl} (h : ProIn H p t x tl) (s : Tu H H') (d : ∀ kvs, H x = some (.dK kvs) → H' x = some (.dK kvs)) : ProIn H' p t x tl := by
  obtain ⟨h1, kvs, h2, h3, h4⟩ := h
  exact ⟨s _ _ h1, kvs, d _ h2, h3.tu s, h4⟩
theorem ProIn.same {H H' : Hp} {p x : Addr} {t : Tm} {tl : Tl} (h : ProIn H p t x tl) (s : Same H H') : ProIn H' p t x tl := h.td (tu_same s) fun _ q => s _ _ q
/-! for k, v in d.items() -/
theorem for_items {d : Addr} {o : Obj} {kvs : List (Key × V)} {g : TG} {tb : TS} {D : Ends} {σ : L2.St} {H : Hp} (Pv : Nat → L2.St → Hp → Prop) (h0 : Pv 0 σ H) (hl : ∀ i σ H, i ≤ kvs.length → Pv i σ H → H d = some (.frz o (.dK kvs)))
    (hs : ∀ i k v σ H T, kvs[i]? = some (k, v) → Pv i σ H → H T = none → g (.ref T) σ (upd H T (.tup [kV k, v])) fun σ2 H2 => tb { D with nx := Pv (i + 1), ct := Pv (i + 1), bk := D.nx } σ2 H2) (hd : ∀ σ H, Pv kvs.length σ H → D.nx σ H) :
    ∃ W : Nat → Nat → L2.St → Hp → Prop, (∃ m, W 0 m σ H) ∧ ∀ i m σ H, W i m σ H →
      ((Iti d o kvs).stop i H ∧ D.nx σ H) ∨ ((Iti d o kvs).go i H ∧ ∃ N : L2.St → Hp → Prop, (∀ σ' H', N σ' H' → ∃ m', m' < m ∧ W (i + 1) m' σ' H') ∧ ∀ x H', (Iti d o kvs).yld i H x H' → g x σ H' fun σ2 H2 => tb { D with nx := N, ct := N, bk := D.nx } σ2 H2) := by
  refine ⟨fun i m σ H => m = kvs.length - i ∧ i ≤ kvs.length ∧ Pv i σ H, ⟨kvs.length, by simp, Nat.zero_le _, h0⟩, ?_⟩
  rintro i m σ H ⟨rfl, hi, p⟩
  have q := hl i σ H hi p
  by_cases hlt : i < kvs.length
  · refine .inr ⟨⟨q, hlt⟩, Pv (i + 1), fun σ' H' p' => ⟨kvs.length - (i + 1), by omega, rfl, hlt, p'⟩, fun x H' y => ?_⟩
    obtain ⟨T, k, v, h1, h2, h3, h4⟩ := y
    subst h2 h4
    exact hs i k v σ H T h1 p h3
  · have e : i = kvs.length := by omega
    subst e
    exact .inl ⟨⟨q, Nat.le_refl _⟩, hd σ H p⟩
/-- H with the object u at d locked -/
structure Lk (H HL : Hp) (d : Addr) (od : Obj) (u : HO) : Prop where
  at_ : HL d = some (.frz od u)
  ot : ∀ c o, H c = some o → c ≠ d → HL c = some o
  no : ∀ c, H c = none → HL c = none
  was : H d = some u
theorem Lk.of {H : Hp} {d : Addr} {od : Obj} {u : HO} (h : H d = some u) : Lk H (upd H d (.frz od u)) d od u :=
  ⟨upd_same, fun c o e ne => by rw [upd_ne ne]; exact e, fun c e => by rw [upd_ne fun z => by rw [z, h] at e; cases e]; exact e, h⟩
theorem Lk.tu {H HL : Hp} {d : Addr} {od : Obj} {kvs : List (Key × V)} (k : Lk H HL d od (.dK kvs)) : Tu H HL := fun c xs e => k.ot c _ e fun z => by rw [z, k.was] at e; cases e
theorem Lk.back {H HL H' : Hp} {d : Addr} {od : Obj} {u : HO} (k : Lk H HL d od u) (s : Same HL H') : Same H (upd H' d u) := fun c o e => by
  by_cases z : c = d
  · subst z; rw [upd_same, ← e, k.was]
  · rw [upd_ne z]; exact s _ _ (k.ot c o e z)
theorem Lk.but {H HL H' : Hp} {d f : Addr} {od : Obj} {u : HO} (k : Lk H HL d od u) (s : But f HL H') : But f H (upd H' d u) := fun c o e ne => by
  by_cases z : c = d
  · subst z; rw [upd_same, ← e, k.was]
  · rw [upd_ne z]; exact s _ _ (k.ot c o e z) ne
/-- a dict whose values are pairs of ints -/
def Fnd (H : Hp) (kvs : List (Key × V)) : Prop := ∀ k v, valV kvs k = some v → ∃ (a : Addr) (c l : Int), v = .ref a ∧ H a = some (.tup [.int c, .int l])
theorem Fnd.nil {H : Hp} : Fnd H [] := fun _ _ e => nomatch e
theorem Fnd.tu {H H' : Hp} {kvs : List (Key × V)} (h : Fnd H kvs) (t : Tu H H') : Fnd H' kvs := fun k v e => by
  obtain ⟨a, c, l, rfl, ha⟩ := h k v e
  exact ⟨a, c, l, rfl, t _ _ ha⟩
theorem Fnd.put {H : Hp} {kvs : List (Key × V)} (h : Fnd H kvs) {k : Key} {a : Addr} {c l : Int} (ha : H a = some (.tup [.int c, .int l])) : Fnd H (putK kvs k (.ref a)) := fun j v e => by
  rw [valV_put] at e
  by_cases hj : j = k
  · rw [if_pos hj] at e
    cases e
    exact ⟨a, c, l, rfl, ha⟩
  · rw [if_neg hj] at e
    exact h j v e
theorem tsum_snoc (w : Int → Nat) (l : Tl) (x : Int × Nat × Nat) : tsum w (l ++ [x]) = tsum w l + x.2.1 * w x.1 := by
  unfold tsum
  rw [List.map_append, List.sum_append]
  exact congrArg _ (Nat.add_zero _)
theorem tmx_snoc (d : Int → Nat) (l : Tl) (x : Int × Nat × Nat) : tmx d (l ++ [x]) = max (tmx d l) (x.2.2 - 1 + d x.1) := by
  rw [tmx_app]
  show max _ (max _ 0) = _
  rw [Nat.max_zero]
theorem max_if (a b : Nat) {i j : Int} (hi : i = (a : Int)) (hj : j = (b : Int)) : (if j > i then j else i) = ((max a b : Nat) : Int) := by
  split <;> omega
end J

/-! ### a signature in the heap -/
namespace J
open PySem L2
/-- a declared operation: its name, its arity, its flag -/
structure Opn where
  nm : Str
  ar : Nat
  cm : Bool
def kvA (es : List Opn) : List (Key × V) := es.map fun e => (.inr e.nm, .int (e.ar : Int))
def kvF (es : List Opn) : List (Key × V) := es.map fun e => (.inr e.nm, .bl e.cm)
def kvR : Nat → List Opn → List (Key × V)
  | _, [] => []
  | i, e :: es => (.inr e.nm, .int (i : Int)) :: kvR (i + 1) es
theorem kvR_len : ∀ (i : Nat) (es : List Opn), (kvR i es).length = es.length
  | _, [] => rfl
  | i, _ :: es => congrArg (· + 1) (kvR_len (i + 1) es)
theorem kvR_snoc : ∀ (i : Nat) (es : List Opn) (e : Opn), kvR i (es ++ [e]) = kvR i es ++ [(.inr e.nm, .int ((i + es.length : Nat) : Int))]
  | _, [], _ => rfl
  | i, x :: es, e => by
    show _ :: kvR (i + 1) (es ++ [e]) = _ :: (kvR (i + 1) es ++ _)
    rw [kvR_snoc (i + 1) es e, List.length_cons, show i + 1 + es.length = i + (es.length + 1) by omega]
theorem kv_none {g : Opn → V} {f : Str} : ∀ {es : List Opn}, f ∉ es.map (·.nm) → valV (es.map fun e => ((.inr e.nm : Key), g e)) (.inr f) = none
  | [], _ => rfl
  | e :: es, h => by
    have h1 : e.nm ≠ f := fun z => h (by rw [← z]; exact List.mem_cons_self ..)
    show valV ((.inr e.nm, g e) :: es.map fun e => ((.inr e.nm : Key), g e)) (.inr f) = none
    rw [valV_neg (fun z => h1 (Sum.inr.inj z))]
    exact kv_none fun m => h (List.mem_cons_of_mem _ m)
theorem kv_some {g : Opn → V} {e : Opn} : ∀ {es : List Opn}, (es.map (·.nm)).Nodup → e ∈ es → valV (es.map fun e => ((.inr e.nm : Key), g e)) (.inr e.nm) = some (g e)
  | [], _, h => nomatch h
  | x :: es, nd, h => by
    have nd := List.nodup_cons.mp nd
    by_cases z : x.nm = e.nm
    · rcases List.mem_cons.mp h with q | q
      · rw [← q]; exact valV_pos rfl
      · exact absurd (List.mem_map.mpr ⟨e, q, z.symm⟩) nd.1
    · rcases List.mem_cons.mp h with q | q
      · exact absurd (by rw [q]) z
      · show valV ((.inr x.nm, g x) :: es.map fun e => ((.inr e.nm : Key), g e)) (.inr e.nm) = _
        rw [valV_neg (fun w => z (Sum.inr.inj w))]
        exact kv_some nd.2 q
theorem kvR_none {f : Str} : ∀ {i : Nat} {es : List Opn}, f ∉ es.map (·.nm) → valV (kvR i es) (.inr f) = none
  | _, [], _ => rfl
  | i, e :: es, h => by
    have h1 : e.nm ≠ f := fun z => h (by rw [← z]; exact List.mem_cons_self ..)
    show valV ((.inr e.nm, _) :: kvR (i + 1) es) (.inr f) = none
    rw [valV_neg (fun z => h1 (Sum.inr.inj z))]
    exact kvR_none fun m => h (List.mem_cons_of_mem _ m)
theorem kvR_some {e : Opn} : ∀ {i j : Nat} {es : List Opn}, (es.map (·.nm)).Nodup → es[j]? = some e → valV (kvR i es) (.inr e.nm) = some (.int ((i + j : Nat) : Int))
  | _, _, [], _, h => by cases h
  | i, 0, x :: es, _, h => by
    cases (show some x = some e from h)
    exact valV_pos rfl
  | i, j + 1, x :: es, nd, h => by
    have nd := List.nodup_cons.mp nd
    have h : es[j]? = some e := h
    have z : x.nm ≠ e.nm := fun z => nd.1 (List.mem_map.mpr ⟨e, List.mem_of_getElem? h, z.symm⟩)
    show valV ((.inr x.nm, _) :: kvR (i + 1) es) (.inr e.nm) = _
    rw [valV_neg (fun w => z (Sum.inr.inj w)), kvR_some nd.2 h, show i + 1 + j = i + (j + 1) by omega]
theorem putA {es : List Opn} {e : Opn} (nin : e.nm ∉ es.map (·.nm)) : putK (kvA es) (.inr e.nm) (.int (e.ar : Int)) = kvA (es ++ [e]) := by
  rw [putK_new _ (show valV (kvA es) _ = none from kv_none nin)]; unfold kvA; rw [List.map_append]; rfl
theorem putFl {es : List Opn} {e : Opn} (nin : e.nm ∉ es.map (·.nm)) : putK (kvF es) (.inr e.nm) (.bl e.cm) = kvF (es ++ [e]) := by
  rw [putK_new _ (show valV (kvF es) _ = none from kv_none nin)]; unfold kvF; rw [List.map_append]; rfl
theorem putR {es : List Opn} {e : Opn} (nin : e.nm ∉ es.map (·.nm)) : putK (kvR 0 es) (.inr e.nm) (.int (es.length : Int)) = kvR 0 (es ++ [e]) := by
  rw [putK_new _ (kvR_none nin), kvR_snoc, Nat.zero_add]
/-- the signature at p: its list of names at n, its dicts at d1, d2, d3 -/
structure SigAt (C : Addr) (H : Hp) (p dx n d1 d2 d3 : Addr) (es : List Opn) : Prop where
  ob : H p = some (.ins C dx [("_names", .ref n), ("_arities", .ref d1), ("_ranks", .ref d2), ("_flags", .ref d3)])
  nl : H n = some (.lst ((es.map (·.nm)).map V.str))
  a1 : H d1 = some (.dK (kvA es))
  a2 : H d2 = some (.dK (kvR 0 es))
  a3 : H d3 = some (.dK (kvF es))
  n12 : d1 ≠ d2
  n13 : d1 ≠ d3
  n23 : d2 ≠ d3
  nd : (es.map (·.nm)).Nodup
theorem SigAt.keep {C : Addr} {H H' : Hp} {p dx n d1 d2 d3 : Addr} {es : List Opn} (h : SigAt C H p dx n d1 d2 d3 es) (k : ∀ a o, H a = some o → a ∈ [p, n, d1, d2, d3] → H' a = some o) : SigAt C H' p dx n d1 d2 d3 es :=
  ⟨k _ _ h.ob (by simp), k _ _ h.nl (by simp), k _ _ h.a1 (by simp), k _ _ h.a2 (by simp), k _ _ h.a3 (by simp), h.n12, h.n13, h.n23, h.nd⟩
theorem SigAt.same {C : Addr} {H H' : Hp} {p dx n d1 d2 d3 : Addr} {es : List Opn} (h : SigAt C H p dx n d1 d2 d3 es) (s : Same H H') : SigAt C H' p dx n d1 d2 d3 es := h.keep fun a o e _ => s a o e
/-- what may be declared -/
structure OpnOk (e : Opn) : Prop where
  low : Low e.nm
  lo : 1 ≤ e.nm.length
  hi : e.nm.length ≤ 8
  ar : e.ar ≤ 3
  cm : e.cm = true → e.ar = 2
/-- a list of pairs (name, arity) at o -/
def OpsAt (H : Hp) (o : Addr) (es : List Opn) : Prop := ∃ as : List Addr, H o = some (.lst (as.map V.ref)) ∧ as.length = es.length ∧
  ∀ (k : Nat) (e : Opn) (a : Addr), es[k]? = some e → as[k]? = some a → H a = some (.tup [.str e.nm, .int (e.ar : Int)])
theorem OpsAt.same {H H' : Hp} {o : Addr} {es : List Opn} (h : OpsAt H o es) (b : Same H H') : OpsAt H' o es := by
  obtain ⟨as, h1, h2, h3⟩ := h
  exact ⟨as, b _ _ h1, h2, fun k e a x y => b _ _ (h3 k e a x y)⟩
theorem nd_take : ∀ {es : List Opn} {i : Nat} {e : Opn}, (es.map (·.nm)).Nodup → es[i]? = some e → e.nm ∉ (es.take i).map (·.nm)
  | [], _, _, _, h => by cases h
  | _ :: _, 0, _, _, _ => fun m => nomatch m
  | x :: es, i + 1, e, nd, h => fun m => by
    have nd := List.nodup_cons.mp nd
    have h : es[i]? = some e := h
    rcases List.mem_cons.mp (show e.nm ∈ x.nm :: (es.take i).map (·.nm) from m) with z | z
    · exact nd.1 (List.mem_map.mpr ⟨e, List.mem_of_getElem? h, z⟩)
    · exact nd_take nd.2 h z
/-! its fields -/
theorem sg_ne {f g : Str} {v y : V} {r : List (Str × V)} (h : ¬ g = f) : putF f y ((g, v) :: r) = (g, v) :: putF f y r := if_neg h
theorem sg_f2 (a b : V) : putF ("_arities" : Str) b [(("_names" : Str), a)] = [(("_names" : Str), a), (("_arities" : Str), b)] := by rw [sg_ne (by decide +kernel)]; rfl
theorem sg_f3 (a b c : V) : putF ("_ranks" : Str) c [(("_names" : Str), a), (("_arities" : Str), b)] = [(("_names" : Str), a), (("_arities" : Str), b), (("_ranks" : Str), c)] := by rw [sg_ne (by decide +kernel), sg_ne (by decide +kernel)]; rfl
theorem sg_f4 (a b c d : V) : putF ("_flags" : Str) d [(("_names" : Str), a), (("_arities" : Str), b), (("_ranks" : Str), c)] = [(("_names" : Str), a), (("_arities" : Str), b), (("_ranks" : Str), c), (("_flags" : Str), d)] := by rw [sg_ne (by decide +kernel), sg_ne (by decide +kernel), sg_ne (by decide +kernel)]; rfl
section
variable (a b c d : V)
theorem sg_names : ([(("_names" : Str), a), (("_arities" : Str), b), (("_ranks" : Str), c), (("_flags" : Str), d)] : List (Str × V)).lookup ("_names" : Str) = some a := by
  rw [List.lookup_cons, show ((("_names" : Str) == ("_names" : Str)) = true) by decide +kernel]
theorem sg_arities : ([(("_names" : Str), a), (("_arities" : Str), b), (("_ranks" : Str), c), (("_flags" : Str), d)] : List (Str × V)).lookup ("_arities" : Str) = some b := by
  rw [List.lookup_cons, show ((("_arities" : Str) == ("_names" : Str)) = false) by decide +kernel]
  show List.lookup _ _ = _
  rw [List.lookup_cons, show ((("_arities" : Str) == ("_arities" : Str)) = true) by decide +kernel]
theorem sg_ranks : ([(("_names" : Str), a), (("_arities" : Str), b), (("_ranks" : Str), c), (("_flags" : Str), d)] : List (Str × V)).lookup ("_ranks" : Str) = some c := by
  rw [List.lookup_cons, show ((("_ranks" : Str) == ("_names" : Str)) = false) by decide +kernel]
  show List.lookup _ _ = _
  rw [List.lookup_cons, show ((("_ranks" : Str) == ("_arities" : Str)) = false) by decide +kernel]
  show List.lookup _ _ = _
  rw [List.lookup_cons, show ((("_ranks" : Str) == ("_ranks" : Str)) = true) by decide +kernel]
theorem sg_flags : ([(("_names" : Str), a), (("_arities" : Str), b), (("_ranks" : Str), c), (("_flags" : Str), d)] : List (Str × V)).lookup ("_flags" : Str) = some d := by
  rw [List.lookup_cons, show ((("_flags" : Str) == ("_names" : Str)) = false) by decide +kernel]
  show List.lookup _ _ = _
  rw [List.lookup_cons, show ((("_flags" : Str) == ("_arities" : Str)) = false) by decide +kernel]
  show List.lookup _ _ = _
  rw [List.lookup_cons, show ((("_flags" : Str) == ("_ranks" : Str)) = false) by decide +kernel]
  show List.lookup _ _ = _
  rw [List.lookup_cons, show ((("_flags" : Str) == ("_flags" : Str)) = true) by decide +kernel]
theorem sg_no {m : Str} (h1 : (m == ("_names" : Str)) = false) (h2 : (m == ("_arities" : Str)) = false) (h3 : (m == ("_ranks" : Str)) = false) (h4 : (m == ("_flags" : Str)) = false) : ([(("_names" : Str), a), (("_arities" : Str), b), (("_ranks" : Str), c), (("_flags" : Str), d)] : List (Str × V)).lookup m = none := by
  rw [List.lookup_cons, h1]
  show List.lookup _ _ = _
  rw [List.lookup_cons, h2]
  show List.lookup _ _ = _
  rw [List.lookup_cons, h3]
  show List.lookup _ _ = _
  rw [List.lookup_cons, h4]; rfl
end
/-! ### o.m(e, .., k = v, ..) -/
def tMethN (C : Addr) (m : Str) (n j : Nat) (sp : Sp) (gV : List V → List V → List V) (E : XK) (ta : TE) (t tk : TA) : TE := fun σ H Q => ta σ H fun x H1 => ∃ a dx fs, x = .ref a ∧ H1 a = some (.ins C dx fs) ∧ fs.lookup m = none ∧
  t σ H1 fun vs H2 => tk σ H2 fun zs H3 => vs.length + 1 = n ∧ zs.length = j ∧ sp (gV (x :: vs) zs) H3 Q E
section
variable {X : Cx} {CX : CXT} {k n : Nat} {f C : Addr} {fd : FuncData} {ps ks : List Str} {sp : Sp} {E : XK} {m : Str} {pos apos : Pos} {e o : Expr} {es : List Expr} {kws : List Keyword} {ta : TE} {t tk : TA} {g : List Value → List Value → List Value} {gV : List V → List V → List V}
theorem pe_methN {pl : Sem Bool} (he : PE X o ta) (c : Cls X.K C) (hm : Meth X.K C m f) (F : FnOk X.prog X.w X.K X.mg X.base CX k f fd ps sp) (hr : Room k X.A) (hb : KBn X.K fd ps n ks g gV) (hx : Passes CX X E) (ha : PA X (e :: es) t) (hkw : PK X kws tk)
    (hall : (backToKw pos (keywordEach kws X.env)).all (·.1.isSome) = true := by rfl) (hks : (backToKw pos (keywordEach kws X.env)).filterMap (·.1) = ks := by rfl)
    (hst : starEach (e :: es) X.env = (false, eval e X.env) :: starEach es X.env := by rfl) (hpl : ((backTo pos (starEach (e :: es) X.env)).any (·.1) || (backToKw pos (keywordEach kws X.env)).any (·.1.isNone)) = false := by rfl)
    (ht : eval (.Call (.Attribute o m apos) (e :: es) kws pos) X.env = (do
      let ov ← eval o X.env
      standAt apos.atName
      let (f, first) ← holding [ov] (getMethod ov m pl)
      callWith pos f first (backTo pos (starEach (e :: es) X.env)) (backToKw pos (keywordEach kws X.env))) := by rfl) :
    PE X (.Call (.Attribute o m apos) (e :: es) kws pos) (tMethN C m n ks.length sp gV E ta t tk) := by
  refine ⟨fun pins s σ H Q I h => ?_⟩
  refine PySem.W.methodCall_KW (pl := pl) (thn (he.run pins s σ H _ I h) fun u s1 ⟨x, H1, I1, rx, a, dx, fs, ex, ea, l, q⟩ => ?_) ht
  subst ex
  obtain rfl : u = Value.ref a := rx
  refine getmeth_ok I1 ea c hm l ?_
  refine PySem.W.callWith_KW (first := [.ref a]) (h₀ := X.base) I.ok.mod.kin hm.kp hall (thn (ha.run pos pins s1 σ H1 _ I1 q) fun us s2 ⟨vs, H2, I2, r, q2⟩ => ?_) hpl hst
  refine thn (hkw.run pos pins s2 σ H2 _ I2 q2) fun ws s3 ⟨zs, H3, I3, rz, l1, l2, q3⟩ => ⟨I3.kIn, ?_⟩
  rw [hks]
  exact run_fnN (us := .ref a :: us) (vs := .ref a :: vs) F hr hb hx I3 (.cons rfl r) rz l1 l2 q3
end
/-- every parameter is written, some by keyword -/
theorem kbn_all {K : PySem.W.Frag} {x qual : Str} {params : Arguments} {body : List Stmt} {scope : Scope} {kws : List (Str × V)} {f : Addr} {fd : FuncData} {ps : List Str} (F : FunD K x qual params body scope [] kws f fd) (n : Nat) (ks : List Str)
    (h : ∀ (kV doc pm : Value) (an : Option Addr) (cdv ct : Value) (us ws : List Value), us.length = n → ws.length = ks.length → bindArgs (PySem.W.fnOf x qual params body scope .none kV doc pm an cdv ct) ⟨us, ks.zip ws⟩ = pure (ps.zip (us ++ ws))) :
    KBn K fd ps n ks (fun us ws => us ++ ws) (fun vs zs => vs ++ zs) := by
  obtain ⟨oc, od, dV, kV, doc, pm, an, cdv, ct, osl, rfl, lk, hcd, hD, hK⟩ := F.ex
  rcases hD with ⟨_, rfl⟩ | ⟨e, _⟩
  · exact ⟨fun s us ws _ l1 l2 => .of_eq (h kV doc pm an cdv ct us ws l1 l2), fun r1 r2 => r1.append r2⟩
  · exact absurd rfl e
end J

/-! ### class WeightOrder in the heap -/
namespace J
open PySem L2
/-- an order of weights at p: its weights at w, the weight of a variable, its ranks at r -/
structure WoAt (C : Addr) (H : Hp) (p dx w r : Addr) (vw : Int) (kvs rks : List (Key × V)) : Prop where
  ob : H p = some (.ins C dx [("_weights", .ref w), ("_variable_weight", .int vw), ("_ranks", .ref r)])
  hw : H w = some (.dK kvs)
  hr : H r = some (.dK rks)
theorem WoAt.same {C : Addr} {H H' : Hp} {p dx w r : Addr} {vw : Int} {kvs rks : List (Key × V)} (h : WoAt C H p dx w r vw kvs rks) (s : Same H H') : WoAt C H' p dx w r vw kvs rks :=
  ⟨s _ _ h.ob, s _ _ h.hw, s _ _ h.hr⟩
section
variable (a b c : V)
theorem wo_weights : ([(("_weights" : Str), a), (("_variable_weight" : Str), b), (("_ranks" : Str), c)] : List (Str × V)).lookup ("_weights" : Str) = some a := by
  rw [List.lookup_cons, show ((("_weights" : Str) == ("_weights" : Str)) = true) by decide +kernel]
theorem wo_vw : ([(("_weights" : Str), a), (("_variable_weight" : Str), b), (("_ranks" : Str), c)] : List (Str × V)).lookup ("_variable_weight" : Str) = some b := by
  rw [List.lookup_cons, show ((("_variable_weight" : Str) == ("_weights" : Str)) = false) by decide +kernel]
  show List.lookup _ _ = _
  rw [List.lookup_cons, show ((("_variable_weight" : Str) == ("_variable_weight" : Str)) = true) by decide +kernel]
theorem wo_ranks : ([(("_weights" : Str), a), (("_variable_weight" : Str), b), (("_ranks" : Str), c)] : List (Str × V)).lookup ("_ranks" : Str) = some c := by
  rw [List.lookup_cons, show ((("_ranks" : Str) == ("_weights" : Str)) = false) by decide +kernel]
  show List.lookup _ _ = _
  rw [List.lookup_cons, show ((("_ranks" : Str) == ("_variable_weight" : Str)) = false) by decide +kernel]
  show List.lookup _ _ = _
  rw [List.lookup_cons, show ((("_ranks" : Str) == ("_ranks" : Str)) = true) by decide +kernel]
theorem wo_no {m : Str} (h1 : (m == ("_weights" : Str)) = false) (h2 : (m == ("_variable_weight" : Str)) = false) (h3 : (m == ("_ranks" : Str)) = false) : ([(("_weights" : Str), a), (("_variable_weight" : Str), b), (("_ranks" : Str), c)] : List (Str × V)).lookup m = none := by
  rw [List.lookup_cons, h1]
  show List.lookup _ _ = _
  rw [List.lookup_cons, h2]
  show List.lookup _ _ = _
  rw [List.lookup_cons, h3]; rfl
end
/-- the weight of a row of symbols -/
def wsum (g : Str → Int) (vw : Int) : List V → Int
  | [] => 0
  | .str f :: r => g f + wsum g vw r
  | _ :: r => vw + wsum g vw r
theorem wsum_app (g : Str → Int) (vw : Int) : ∀ (a b : List V), wsum g vw (a ++ b) = wsum g vw a + wsum g vw b
  | [], b => by show wsum g vw b = 0 + wsum g vw b; omega
  | x :: a, b => by
    have ih := wsum_app g vw a b
    cases x <;> (show _ + wsum g vw (a ++ b) = (_ + wsum g vw a) + wsum g vw b; rw [ih]; omega)
/-- a term's symbols are ints and texts -/
theorem syms_two (t : Tm) : ∀ x ∈ syms t, (∃ n, x = V.int n) ∨ ∃ f, x = V.str f :=
  Tm.ind (P := fun t => ∀ x ∈ syms t, (∃ n, x = V.int n) ∨ ∃ f, x = V.str f) (fun n x h => .inl ⟨n, List.mem_singleton.mp h⟩) (fun f ts ih x h => by
    rcases List.mem_cons.mp (show x ∈ V.str f :: symss ts from h) with z | z
    · exact .inr ⟨f, z⟩
    · have go : ∀ (us : List Tm), (∀ u ∈ us, ∀ x ∈ syms u, (∃ n, x = V.int n) ∨ ∃ f, x = V.str f) → x ∈ symss us → (∃ n, x = V.int n) ∨ ∃ f, x = V.str f := by
        intro us
        induction us with
        | nil => exact fun _ h => nomatch h
        | cons u us ihu =>
          intro hh hx
          rcases List.mem_append.mp (show x ∈ syms u ++ symss us from hx) with z | z
          · exact hh u (List.mem_cons_self ..) x z
          · exact ihu (fun w hw => hh w (List.mem_cons_of_mem _ hw)) z
      exact go ts ih z) t
/-! ### weights by name -/
def updS (g : Str → Int) (f : Str) (x : Int) : Str → Int := fun h => if h = f then x else g h
def kvW (g : Str → Int) (es : List Opn) : List (Key × V) := es.map fun e => (.inr e.nm, .int (g e.nm))
theorem kvW_len (g : Str → Int) (es : List Opn) : (kvW g es).length = es.length := List.length_map ..
theorem kvW_some {g : Str → Int} {es : List Opn} {e : Opn} (nd : (es.map (·.nm)).Nodup) (m : e ∈ es) : valV (kvW g es) (.inr e.nm) = some (.int (g e.nm)) := kv_some (g := fun e => V.int (g e.nm)) nd m
theorem kvW_none {g : Str → Int} {es : List Opn} {f : Str} (h : f ∉ es.map (·.nm)) : valV (kvW g es) (.inr f) = none := kv_none (g := fun e => V.int (g e.nm)) h
theorem putW_new {g : Str → Int} {es : List Opn} {e : Opn} {x : Int} (nin : e.nm ∉ es.map (·.nm)) : putK (kvW g es) (.inr e.nm) (.int x) = kvW (updS g e.nm x) (es ++ [e]) := by
  rw [putK_new _ (kvW_none nin)]
  unfold kvW
  rw [List.map_append]
  congr 1
  · refine List.map_congr_left fun a ha => ?_
    have : a.nm ≠ e.nm := fun z => nin (List.mem_map.mpr ⟨a, ha, z⟩)
    unfold updS
    rw [if_neg this]
  · show [((.inr e.nm : Key), V.int x)] = [(.inr e.nm, .int (updS g e.nm x e.nm))]
    unfold updS
    rw [if_pos rfl]
theorem putW_old {g : Str → Int} {es : List Opn} {f : Str} {x : Int} (m : f ∈ es.map (·.nm)) : putK (kvW g es) (.inr f) (.int x) = kvW (updS g f x) es := by
  have h : ((kvW g es).any fun kv => decide (kv.1 = (.inr f : Key))) = true := by
    obtain ⟨e, he, ef⟩ := List.mem_map.mp m
    exact List.any_eq_true.mpr ⟨(.inr e.nm, .int (g e.nm)), List.mem_map.mpr ⟨e, he, rfl⟩, decide_eq_true (congrArg Sum.inr ef)⟩
  unfold putK
  rw [if_pos h]
  unfold kvW
  rw [List.map_map]
  refine List.map_congr_left fun a _ => ?_
  show (if (Sum.inr a.nm : Key) = .inr f then ((Sum.inr a.nm : Key), V.int x) else (.inr a.nm, .int (g a.nm))) = (.inr a.nm, .int (updS g f x a.nm))
  unfold updS
  by_cases z : a.nm = f
  · rw [if_pos (congrArg Sum.inr z), if_pos z]
  · rw [if_neg (fun w => z (Sum.inr.inj w)), if_neg z]
/-- weights that an order accepts -/
def WOk (es : List Opn) (vw : Int) (g : Str → Int) : Prop := ∀ (k : Nat) (e : Opn), es[k]? = some e → 0 ≤ g e.nm ∧ g e.nm ≤ 1000 ∧ (e.ar = 0 → vw ≤ g e.nm) ∧ (e.ar = 1 → k + 1 < es.length → 1 ≤ g e.nm)
end J

/-! ### sorted(xs, key=f), f a def of the program -/
namespace J
open PySem PySem.Spec PyProof.Rows L2
open PySem.W (KeepsBut AllAlike Sortable dataLe EachIs copyHeap copyHeap_at copyHeap_old sortingHeap sortingHeap_old)
section
variable {X : Cx} {k : Nat} {fa : Addr} {fd : FuncData} {ps : List Str} {sp : Sp}
theorem turn_run {pins : List (Addr × Obj)} {σ : L2.St} {H : Hp} {s : Shared} {x : V} {v : Value} {Q : VK} {E : Value → Shared → Prop} (F : FnOk X.prog X.w X.K X.mg X.base CX0 k fa fd ps sp) (hr : Room k X.A.in1.in1) (hb : Binds X.K fd ps [])
    (I : Inv X pins σ H s) (r : RelV x v) (h : sp [x] H Q E0) : wpAny (model X.prog X.w) X.A.in1.in1 (call (.ref fa) [v]) (EP X pins σ Q) E s := by
  have hl := F.len _ _ _ _ h
  refine wpAny_call (codeAny_mono (F.run X.A.in1.in1 X.stack s H ⟨[v], []⟩ [v] [x] Q E0 hr I.env0.in1.in1 (by
    have := hb s [v] I.kIn (by simpa using hl)
    simpa using this) (.cons r .nil) h) fun r s' z => ?_)
  match r, z with
  | .error _, z => exact z.elim
  | .ok (.ret u), z => exact I.after z
  | .ok .next, z => exact z.elim
  | .ok .brk, z => exact z.elim
  | .ok .cont, z => exact z.elim
/-- J i ks H: what stands after i calls, which answered ks -/
def rSortF (K : PySem.W.Frag) (fa : Addr) (sp : Sp) : List V → List V → Hp → VK → Prop := fun vs zs H Q => ∃ (a : Addr) (xs : List V) (J : Nat → List V → Hp → Prop), vs = [.ref a] ∧ zs = [.ref fa] ∧ SqL K H a xs ∧ J 0 [] H ∧
  (∀ i x ks H', xs[i]? = some x → J i ks H' → sp [x] H' (fun z H'' => J (i + 1) (ks ++ [z]) H'') E0) ∧
  (∀ ks H', J xs.length ks H' → ∃ ds : List PyData, DpAll K H' ks ds ∧ ds.length = xs.length ∧ AllAlike ds ∧ Sortable ds ∧ (∀ d ∈ ds, d.depth ≤ 60) ∧
    ∀ p, H p = none → H' p = none → Q (.ref p) (upd H' p (.lst (((xs.zip ds).mergeSort (dataLe false Prod.snd)).map Prod.fst))))
theorem each_of_vals : ∀ {xs : List V} {us : List Value} {ds : List PyData}, Vals xs us → ds.length = xs.length → EachIs (fun (v : Value) (p : V × PyData) => RelV p.1 v) us (xs.zip ds)
  | [], [], [], _, _ => .nil
  | [], [], _ :: _, _, h => nomatch h
  | x :: xs, u :: us, [], _, h => nomatch h
  | x :: xs, u :: us, d :: ds, .cons r t, h => .cons r (each_of_vals t (Nat.succ.inj h))
theorem vals_of_each : ∀ {us : List Value} {ps : List (V × PyData)}, EachIs (fun (v : Value) (p : V × PyData) => RelV p.1 v) us ps → Vals (ps.map Prod.fst) us
  | _, _, .nil => .nil
  | _, _, .cons r t => .cons r (vals_of_each t)
theorem cr_sortF (F : FnOk X.prog X.w X.K X.mg X.base CX0 k fa fd ps sp) (hr : Room (k + 2) X.A) (hb : Binds X.K fd ps []) : CallRK X (.builtin "sorted") [Str.ofString "key"] (rSortF X.K fa sp) := by
  intro pins s σ H vs zs us ws Q I r rz h
  obtain ⟨l, xs, J, rfl, rfl, hs, j0, turn, fin⟩ := h
  obtain rfl := Vals.ref1 r
  obtain ⟨w1, rfl, e1⟩ := vals1 rz
  obtain rfl : w1 = Value.ref fa := e1
  obtain ⟨its, rv, pl, hz⟩ := I.list hs
  have hlen := rv.length
  have hzl : its.length ≤ sizeLine := by rw [← hlen]; exact hz
  have hru : X.A.units + 64 < cLine := hr.units
  show wpAny _ _ (call (.builtin "sorted") [.ref l] [(Str.ofString "key", .ref fa)]) _ _ _
  refine PySem.W.sorted_of_sort pl.isList hzl (PyProof.Rows.ksk_s1 _ _) (fun _ => PyProof.Rows.ksk_l1 _ _) fun E' => ?_
  rw [PyProof.Rows.ksk_t1]
  have ho := copyHeap_at s.heap its
  have oldc : ∀ b u, s.heap.get? b = some u → (copyHeap s.heap its).get? b = some u := fun b u q => copyHeap_old q
  have hcs : s.heap.objs.size + 1 < (copyHeap s.heap its).objs.size := Heap.lt_size ho
  generalize copyHeap s.heap its = hc at ho oldc hcs
  have hDsz : s.heap.objs.size ≤ s.heap.objs.size + 1 := Nat.le_succ _
  have hDH : H (s.heap.objs.size + 1) = none := I.hok.fresh hDsz
  have fD := I.fpOk hDsz hDH
  have neD : ∀ b u, s.heap.get? b = some u → b ≠ s.heap.objs.size + 1 := fun b u q => Nat.ne_of_lt (Nat.lt_succ_of_lt (Heap.lt_size q))
  generalize s.heap.objs.size + 1 = D at ho hcs hDsz hDH fD neD
  obtain ⟨ep, ho1⟩ : ∃ ep, (hc.update D (Obj.mapSeq fun _ => (#[] : Array Value))).get? D = some (seqObj "list" #[] ep) := ⟨_, get?_update_seq ho fun _ => #[]⟩
  unfold ksk_tree
  refine wpAny_bind (listItems_at ho rfl ?_)
  refine wpAny_bind (listUpdate_at ho rfl ?_ (by rw [List.size_toArray]; exact hzl) (Nat.zero_le _))
  refine wpAny_bind (seqEpoch_at ho1 rfl ?_)
  refine wpAny_bind (wpAny_newTuple ?_ (by show its.length ≤ _; exact hzl))
  refine wpAny_bind (wpAny_newList ?_ (Nat.zero_le _))
  refine wpAny_holding ?_
  have hkS : ((hc.update D (Obj.mapSeq fun _ => (#[] : Array Value))).push (seqObj "tuple" its.toArray 0)).objs.size = hc.objs.size + 1 := by rw [size_push', Heap.size_update]
  have old2 : ∀ b u, s.heap.get? b = some u → (((hc.update D (Obj.mapSeq fun _ => (#[] : Array Value))).push (seqObj "tuple" its.toArray 0)).push (seqObj "list" #[] 0)).get? b = some u := fun b u q => sortingHeap_old (neD b u q) (oldc b u q)
  have na : (((hc.update D (Obj.mapSeq fun _ => (#[] : Array Value))).push (seqObj "tuple" its.toArray 0)).push (seqObj "list" #[] 0)).get? D = some (seqObj "list" #[] ep) := Heap.get?_push_of_some _ (Heap.get?_push_of_some _ ho1)
  have nk : (((hc.update D (Obj.mapSeq fun _ => (#[] : Array Value))).push (seqObj "tuple" its.toArray 0)).push (seqObj "list" #[] 0)).get? ((hc.update D (Obj.mapSeq fun _ => (#[] : Array Value))).push (seqObj "tuple" its.toArray 0)).objs.size = some (seqObj "list" #[] 0) := Heap.get?_push_size _ rfl
  have hka : ((hc.update D (Obj.mapSeq fun _ => (#[] : Array Value))).push (seqObj "tuple" its.toArray 0)).objs.size ≠ D := by rw [hkS]; omega
  have hKsz : s.heap.objs.size ≤ ((hc.update D (Obj.mapSeq fun _ => (#[] : Array Value))).push (seqObj "tuple" its.toArray 0)).objs.size := by rw [hkS]; omega
  generalize ((hc.update D (Obj.mapSeq fun _ => (#[] : Array Value))).push (seqObj "tuple" its.toArray 0)).push (seqObj "list" #[] 0) = h2 at old2 na nk
  generalize ((hc.update D (Obj.mapSeq fun _ => (#[] : Array Value))).push (seqObj "tuple" its.toArray 0)).objs.size = kS at nk hka hKsz
  have hKH : H kS = none := I.hok.fresh hKsz
  have fK := I.fpOk hKsz hKH
  have I2 : Inv X pins σ H { s with heap := h2, toks := s.toks } := I.kept old2
  have nocell : ∀ (b : Addr) (xs : Array Value) (n : Nat) (v : Option Value), (b, seqObj "list" xs n).2.data ≠ .cell v := fun b xs n v z => nomatch z
  have pinD : ∀ {H' : Hp} {s' : Shared} {kA : Array Value} {e : Nat}, Inv X pins σ H' s' → s'.heap.get? D = some (seqObj "list" #[] ep) → H' D = none → s'.heap.get? kS = some (seqObj "list" kA e) → H' kS = none →
      Inv X (pins ++ [(D, seqObj "list" #[] ep), (kS, seqObj "list" kA e)]) σ H' s' := fun {H' s' kA e} J1 a1 a2 b1 b2 => J1.pins_of fun p hp => by
    rcases List.mem_append.mp hp with z | z
    · exact J1.pin p (List.mem_append_right _ z)
    · rcases List.mem_cons.mp z with z | z
      · subst z; exact ⟨a1, a2, fD.2.1, fD.2.2.1, nocell _ _ _⟩
      · rw [List.mem_singleton.mp z]; exact ⟨b1, b2, fK.2.1, fK.2.2.1, nocell _ _ _⟩
  unfold ksk_rest
  refine wpAny_bind (wpAny_rule ?_)
  first
    | rw [List.forIn_toArray]
    | (rw [← Array.forIn_toList]; simp only [List.toList_toArray])
    | rw [← Array.forIn_toList]
  refine wpAny_bind (ksk_fold (fun i s' => ∃ H' kA e ks, Inv X (pins ++ [(D, seqObj "list" #[] ep), (kS, seqObj "list" kA e)]) σ H' s' ∧ Vals ks kA.toList ∧ J i ks H' ∧ kA.size = i) its 0 _
    ⟨H, #[], 0, [], pinD I2 na hDH nk hKH, .nil, j0, rfl⟩ ?step ?done)
  case step =>
    rintro j x s' hx ⟨H', kA, e, ks, I', rk, hJ, hsz⟩
    simp only [Nat.zero_add] at hJ hsz ⊢
    have hj : j < its.length := (List.getElem?_eq_some_iff.mp hx).1
    obtain ⟨xv, gx⟩ : ∃ xv, xs[j]? = some xv := ⟨_, List.getElem?_eq_getElem (by omega)⟩
    obtain ⟨u, gu, ru⟩ := rv.get gx
    rw [hx] at gu; cases gu
    refine wpAny_bind (wpAny_attempt (wpAny_mono (turn_run (E := fun _ _ => False) F hr.in1.in1 hb I' ru (turn j xv ks H' gx hJ)) (fun v s'' he => ?_) fun _ _ hF => hF.elim))
    obtain ⟨kv, H'', I'', rkv, hJ'⟩ := he
    have pk := I''.pin (kS, seqObj "list" kA e) (by simp)
    have pd := I''.pin (D, seqObj "list" #[] ep) (by simp)
    have nk2 : s''.heap.get? kS = some (seqObj "list" kA e) := pk.1
    have nd2 : s''.heap.get? D = some (seqObj "list" #[] ep) := pd.1
    have s1 := Heap.SameBut.update s''.heap kS (Obj.mapSeq (·.push v))
    obtain ⟨c2, hc2⟩ : ∃ c2, (s''.heap.update kS (Obj.mapSeq (·.push v))).get? kS = some (seqObj "list" (kA.push v) c2) := ⟨_, get?_update_seq nk2 (·.push v)⟩
    have ea : (kA.push v).toList = kA.toList ++ [v] := by simp
    dsimp only
    refine wpAny_bind (listUpdate_at nk2 rfl ?_ (by omega) (Nat.le_trans (Nat.le_of_eq (Array.size_push ..)) (by omega)))
    have I3 : Inv X pins σ H'' { s'' with heap := s''.heap.update kS (Obj.mapSeq (·.push v)), toks := s''.toks } :=
      I''.unpinned.turned (fun b o hb q => (s1.2 b hb).trans q) pk.2.1 fK.2.1 fK.2.2.2.1 fK.2.2.2.2.1 fK.2.2.2.2.2
    refine wpAny_pure ⟨rfl, H'', kA.push v, c2, ks ++ [kv], pinD I3 ((s1.2 D hka.symm).trans nd2) pd.2.1 hc2 pk.2.1, ?_, hJ', ?_⟩
    · rw [ea]; exact Vals.append rk (.cons rkv .nil)
    · rw [Array.size_push, hsz]
  case done =>
    rintro s' ⟨H', kA, e, ks, I', rk, hJ, hsz⟩
    simp only [Nat.zero_add] at hJ hsz
    rw [← hlen] at hJ
    obtain ⟨ds, hdp, hdl, hal, hsk, hdd, q⟩ := fin ks H' hJ
    have pk := I'.pin (kS, seqObj "list" kA e) (by simp)
    have pd := I'.pin (D, seqObj "list" #[] ep) (by simp)
    have nk' : s'.heap.get? kS = some (seqObj "list" kA e) := pk.1
    have na' : s'.heap.get? D = some (seqObj "list" #[] ep) := pd.1
    obtain ⟨as, rall⟩ := Dp.readsAll I' ds ks kA.toList hdp rk
    have he : EachIs (fun v d => ∃ as, Reads s'.heap v d as) kA.toList ds := PySem.W.readsAll_each (fun d : PyData => d) (by rw [List.map_id']; exact rall)
    have hui : ∀ d, d ∈ ds → X.A.in1.in1.units + d.depth < cLine := fun d hd => by
      have := hdd d hd
      show X.A.units + 1 + 1 + d.depth < cLine
      omega
    refine wpAny_bind (listItems_at nk' rfl ?_)
    refine PySem.W.keyH_end (κ := PySem.W.dataKind s'.heap ds) (h₁ := PySem.W.hideAll s'.heap [kS, D]) (fun b o _ q => PySem.W.of_hideAll _ q) (PySem.W.hideAll_none _ (by simp)) nk' na' hka (PySem.W.SortsAt.data he hal hsk hui) hsz hzl fun h3 tk3 c k3 n3 => ⟨rfl, ?_⟩
    have hmap : (xs.zip ds).map Prod.snd = ds := List.map_snd_zip (by omega)
    have ko := PySem.W.keyedOut_each (rev := false) (bs := xs.zip ds) (vs := its) (out := PySem.W.sortVals (PySem.W.dataKind s'.heap ds) false kA.toList its) (R := fun (v : Value) (p : V × PyData) => RelV p.1 v) Prod.snd
      ⟨s'.heap, kA.toList, by rw [hmap]; exact hal, by rw [hmap], by rw [hmap]; exact he⟩ (each_of_vals rv hdl)
    have ro := vals_of_each ko
    have nD : ∀ b u, H' b = some u → b ≠ D := fun b u q z => by rw [z, pd.2.1] at q; cases q
    have nK : ∀ b u, H' b = some u → b ≠ kS := fun b u q z => by rw [z, pk.2.1] at q; cases q
    have keep : ∀ b o, b ≠ D → b ≠ kS → s'.heap.get? b = some o → h3.get? b = some o := fun b o n1 n2 q => k3 b o n1 (PySem.W.hideAll_get _ q (by simp [n1, n2]))
    have hyl : (((xs.zip ds).mergeSort (dataLe false Prod.snd)).map Prod.fst).length ≤ sizeLine := by
      rw [List.length_map, List.length_mergeSort, List.length_zip]; omega
    refine ⟨.ref D, upd H' D (.lst (((xs.zip ds).mergeSort (dataLe false Prod.snd)).map Prod.fst)), ?_, rfl, q D hDH pd.2.1⟩
    refine I'.unpinned.step (g' := s'.gens) (d' := s'.drawn) (ch := [kS, D]) (fun b hb => ?_) (fun b o _ _ hc e _ => keep b o (fun z => hc (by simp [z])) (fun z => hc (by simp [z])) e) (fun b o _ _ hc e _ => ⟨o.slots, keep b o (fun z => hc (by simp [z])) (fun z => hc (by simp [z])) e⟩)
      (fun b o hc _ n => by rw [upd_ne (fun z => hc (by simp [z]))]; exact n) (fun b o hc e => ⟨o, keep b o (fun z => hc (by simp [z])) (fun z => hc (by simp [z])) e⟩) (fun b ys q => by rw [upd_ne (nD b _ q)]; exact q) (fun b o u q => by rw [upd_ne (nD b _ q)]; exact q)
      (fun b ps q => ⟨#[], by rw [upd_ne (nD b _ q), q]; simp⟩) (fun m hm => ?_) (fun b u e => ?_) I'.bare
    · rcases List.mem_cons.mp hb with z | z
      · subst z; exact ⟨fK.2.2.2.1, fK.2.1, fK.2.2.2.2.1, fK.2.2.2.2.2⟩
      · rw [List.mem_singleton.mp z]; exact ⟨fD.2.2.2.1, fD.2.1, fD.2.2.2.2.1, fD.2.2.2.2.2⟩
    · obtain ⟨o, es, epp, ho, r⟩ := hm
      exact ⟨o, es, epp, keep _ o (Ne.symm fD.2.1) (Ne.symm fK.2.1) ho, r⟩
    · by_cases hb : b = D
      · subst hb
        rw [upd_same] at e; cases e
        exact ⟨hyl, _, c, ro, n3⟩
      · rw [upd_ne hb] at e
        refine (I'.hok b u e).stay (fun c v hc q => keep c v ?_ ?_ q) (fun c q => by rw [upd_ne (nD c _ q)]; exact q) fun c ys q => by rw [upd_ne (nD c _ q)]; exact q
        · rcases hc with z | z
          · rw [z]; exact hb
          · exact nD c _ z
        · rcases hc with z | z
          · rw [z]; exact nK b u e
          · exact nK c _ z
end
end J

/-! ### commutative operations: sorted forms -/
namespace J
open PySem L2
def sort2 : List Tm → List Tm
  | [a, b] => if klt b a = true then [b, a] else [a, b]
  | l => l
mutual
def srt (cm : Str → Bool) : Tm → Tm
  | .var n => .var n
  | .app f ts => .app f (if cm f = true then sort2 (srts cm ts) else srts cm ts)
def srts (cm : Str → Bool) : List Tm → List Tm
  | [] => []
  | t :: ts => srt cm t :: srts cm ts
end
theorem srts_map (cm : Str → Bool) : ∀ ts : List Tm, srts cm ts = ts.map (srt cm)
  | [] => rfl
  | t :: ts => congrArg (srt cm t :: ·) (srts_map cm ts)
theorem sort2_perm : ∀ l : List Tm, (sort2 l).Perm l
  | [] => .refl _
  | [_] => .refl _
  | [a, b] => by
    show (if klt b a = true then [b, a] else [a, b]).Perm [a, b]
    split
    · exact .swap ..
    · exact .refl _
  | _ :: _ :: _ :: _ => .refl _
theorem perm_szs : ∀ {l r : List Tm}, l.Perm r → Tm.szs l = Tm.szs r
  | _, _, .nil => rfl
  | _, _, .cons x h => congrArg (x.sz + ·) (perm_szs h)
  | _, _, .swap x y l => by show y.sz + (x.sz + Tm.szs l) = x.sz + (y.sz + Tm.szs l); omega
  | _, _, .trans a b => (perm_szs a).trans (perm_szs b)
theorem perm_deps : ∀ {l r : List Tm}, l.Perm r → Tm.deps l = Tm.deps r
  | _, _, .nil => rfl
  | _, _, .cons x h => congrArg (max x.dep ·) (perm_deps h)
  | _, _, .swap x y l => by show max y.dep (max x.dep (Tm.deps l)) = max x.dep (max y.dep (Tm.deps l)); omega
  | _, _, .trans a b => (perm_deps a).trans (perm_deps b)
theorem perm_wfs {fs : List Str} {B : Int} {l r : List Tm} (p : l.Perm r) (w : Tm.wfs fs B r) : Tm.wfs fs B l := Tm.wfs_of fun t ht => Tm.wf_of_mem w (p.subset ht)
mutual
theorem srt_ok {fs : List Str} {B : Int} (cm : Str → Bool) : ∀ t : Tm, t.wf fs B → (srt cm t).wf fs B ∧ (srt cm t).sz = t.sz ∧ (srt cm t).dep = t.dep
  | .var _, w => ⟨w, rfl, rfl⟩
  | .app f ts, w => by
    obtain ⟨⟨k, h1, h2⟩, w2⟩ := (show (∃ k, fs[k]? = some f ∧ ts.length = ar k) ∧ Tm.wfs fs B ts from w)
    obtain ⟨a, b, c, d⟩ := srts_ok cm ts w2
    have p : (if cm f = true then sort2 (srts cm ts) else srts cm ts).Perm (srts cm ts) := by
      split
      · exact sort2_perm _
      · exact .refl _
    refine ⟨⟨⟨k, h1, by rw [p.length_eq, d, h2]⟩, perm_wfs p a⟩, ?_, ?_⟩
    · show 1 + Tm.szs _ = 1 + _
      rw [perm_szs p, b]
    · show 1 + Tm.deps _ = 1 + _
      rw [perm_deps p, c]
theorem srts_ok {fs : List Str} {B : Int} (cm : Str → Bool) : ∀ ts : List Tm, Tm.wfs fs B ts → Tm.wfs fs B (srts cm ts) ∧ Tm.szs (srts cm ts) = Tm.szs ts ∧ Tm.deps (srts cm ts) = Tm.deps ts ∧ (srts cm ts).length = ts.length
  | [], _ => ⟨trivial, rfl, rfl, rfl⟩
  | t :: ts, w => by
    obtain ⟨a, b, c⟩ := srt_ok cm t w.1
    obtain ⟨d, e, f, g⟩ := srts_ok cm ts w.2
    refine ⟨⟨a, d⟩, ?_, ?_, congrArg (· + 1) g⟩
    · show _ + _ = _ + _
      rw [b, e]
    · show max _ _ = max _ _
      rw [c, f]
end
theorem sort2_idem : ∀ l : List Tm, sort2 (sort2 l) = sort2 l
  | [] => rfl
  | [_] => rfl
  | [a, b] => by
    show sort2 (if klt b a = true then [b, a] else [a, b]) = (if klt b a = true then [b, a] else [a, b])
    by_cases h : klt b a = true
    · rw [if_pos h]
      show (if klt a b = true then [a, b] else [b, a]) = _
      rw [if_neg (by rw [klt_asym h]; exact Bool.false_ne_true)]
    · rw [if_neg h]
      show (if klt b a = true then [b, a] else [a, b]) = _
      rw [if_neg h]
  | _ :: _ :: _ :: _ => rfl
theorem sort2_swap {fs : List Str} (nd : fs.Nodup) {B : Int} {a b : Tm} (wa : a.wf fs B) (wb : b.wf fs B) : sort2 [b, a] = sort2 [a, b] := by
  show (if klt a b = true then [a, b] else [b, a]) = (if klt b a = true then [b, a] else [a, b])
  by_cases h : klt b a = true
  · rw [if_pos h, if_neg (by rw [klt_asym h]; exact Bool.false_ne_true)]
  · by_cases h2 : klt a b = true
    · rw [if_pos h2, if_neg h]
    · rw [if_neg h, if_neg h2]
      have := klt_tri nd wa wb (by simpa using h2) (by simpa using h)
      rw [this]
theorem srts_fix (cm : Str → Bool) : ∀ l : List Tm, (∀ t ∈ l, srt cm t = t) → srts cm l = l
  | [], _ => rfl
  | t :: ts, h => by
    show srt cm t :: srts cm ts = _
    rw [h t (List.mem_cons_self ..), srts_fix cm ts fun u hu => h u (List.mem_cons_of_mem _ hu)]
mutual
theorem srt_idem (cm : Str → Bool) : ∀ t : Tm, srt cm (srt cm t) = srt cm t
  | .var _ => rfl
  | .app f ts => by
    have ih := srts_idem cm ts
    show Tm.app f (if cm f = true then sort2 (srts cm (if cm f = true then sort2 (srts cm ts) else srts cm ts)) else srts cm (if cm f = true then sort2 (srts cm ts) else srts cm ts)) = Tm.app f (if cm f = true then sort2 (srts cm ts) else srts cm ts)
    have fx : ∀ t ∈ srts cm ts, srt cm t = t := ih
    by_cases h : cm f = true
    · rw [if_pos h, if_pos h, srts_fix cm _ fun t ht => fx t ((sort2_perm _).subset ht), sort2_idem]
    · rw [if_neg h, if_neg h, srts_fix cm _ fx]
theorem srts_idem (cm : Str → Bool) : ∀ ts : List Tm, ∀ t ∈ srts cm ts, srt cm t = t
  | [], _, h => nomatch h
  | u :: ts, t, h => by
    rcases List.mem_cons.mp h with e | h
    · rw [e]; exact srt_idem cm u
    · exact srts_idem cm ts t h
end
/-- the flags fq stand in a list at q: in the order of the operations -/
structure FlAt (H : Hp) (q : Addr) (fs : List Str) (cm : Str → Bool) : Prop where
  hq : ∃ bs : List Bool, H q = some (.lst (bs.map V.bl)) ∧ bs.length = 6 ∧ ∀ (k : Nat) (f : Str) (b : Bool), fs[ix6 k]? = some f → bs[k]? = some b → b = cm f
  two : ∀ (k : Nat) (f : Str), fs[k]? = some f → cm f = true → ar k = 2
theorem FlAt.keep {H H' : Hp} {q : Addr} {fs : List Str} {cm : Str → Bool} (h : FlAt H q fs cm) (k : ∀ o, H q = some o → H' q = some o) : FlAt H' q fs cm := by
  obtain ⟨⟨bs, h1, h2, h3⟩, h4⟩ := h
  exact ⟨⟨bs, k _ h1, h2, h3⟩, h4⟩
theorem FlAt.same {H H' : Hp} {q : Addr} {fs : List Str} {cm : Str → Bool} (h : FlAt H q fs cm) (s : Same H H') : FlAt H' q fs cm := h.keep (s q)
theorem FlAt.get {H : Hp} {q : Addr} {fs : List Str} {cm : Str → Bool} (h : FlAt H q fs cm) {k : Nat} (hk : k < 6) {f : Str} (gf : fs[ix6 k]? = some f) : ∃ xs, H q = some (.lst xs) ∧ xs[k]? = some (.bl (cm f)) := by
  obtain ⟨⟨bs, h1, h2, h3⟩, h4⟩ := h
  refine ⟨_, h1, ?_⟩
  have hb : k < bs.length := by omega
  rw [List.getElem?_map, List.getElem?_eq_getElem hb, h3 k f _ gf (List.getElem?_eq_getElem hb)]; rfl
theorem ix6_inv (k : Nat) : ix6 (ix6 k) = k := by
  by_cases h4 : k = 4
  · subst h4; rfl
  · by_cases h5 : k = 5
    · subst h5; rfl
    · have e : ix6 k = k := by unfold ix6; rw [if_neg h4, if_neg h5]
      rw [e, e]
/-- the operations with their flags -/
def opns6 (fs : List Str) (cm : Str → Bool) : List Opn := (List.range 6).map fun k => ⟨fs.getD (ix6 k) Str.empty, ar (ix6 k), cm (fs.getD (ix6 k) Str.empty)⟩
theorem opns6_get {fs : List Str} {cm : Str → Bool} {k : Nat} {f : Str} (hk : k < 6) (gf : fs[ix6 k]? = some f) : (opns6 fs cm)[k]? = some ⟨f, ar (ix6 k), cm f⟩ := by
  unfold opns6
  rw [List.getElem?_map, List.getElem?_range hk]
  have e : fs.getD (ix6 k) Str.empty = f := by rw [List.getD_eq_getElem?_getD, gf]; rfl
  show some (Opn.mk (fs.getD (ix6 k) Str.empty) (ar (ix6 k)) (cm (fs.getD (ix6 k) Str.empty))) = _
  rw [e]
theorem opns6_names {fs : List Str} {cm : Str → Bool} (h : fs.length = 6) : (opns6 fs cm).map (·.nm) = sw6 fs := match fs, h with | [_, _, _, _, _, _], _ => rfl
theorem opns6_mem {fs : List Str} {cm : Str → Bool} (h : fs.length = 6) {f : Str} (m : f ∈ fs) : ∃ e ∈ opns6 fs cm, e.nm = f ∧ e.cm = cm f := by
  obtain ⟨k, gk⟩ := List.mem_iff_getElem?.mp m
  have hk : k < 6 := by have := (List.getElem?_eq_some_iff.mp gk).1; omega
  exact ⟨_, List.mem_of_getElem? (opns6_get (k := ix6 k) (ix6_lt hk) (by rw [ix6_inv]; exact gk)), rfl, rfl⟩
/-- a signature that knows the flags of the names -/
def SigCm (C : Addr) (H : Hp) (p : Addr) (fs : List Str) (cm : Str → Bool) : Prop := ∃ (dx n d1 d2 d3 : Addr) (es : List Opn), SigAt C H p dx n d1 d2 d3 es ∧ ∀ f ∈ fs, ∃ e ∈ es, e.nm = f ∧ e.cm = cm f
theorem SigCm.same {C : Addr} {H H' : Hp} {p : Addr} {fs : List Str} {cm : Str → Bool} (h : SigCm C H p fs cm) (s : Same H H') : SigCm C H' p fs cm := by
  obtain ⟨dx, n, d1, d2, d3, es, h1, h2⟩ := h
  exact ⟨dx, n, d1, d2, d3, es, h1.same s, h2⟩
end J
namespace J
open PySem L2
def cmOf (fs : List Str) (bs : List Bool) (f : Str) : Bool := (List.range 6).any fun k => decide (fs[ix6 k]? = some f) && bs.getD k false
theorem cmOf_get {fs : List Str} {bs : List Bool} (nd : fs.Nodup) {k : Nat} {f : Str} {b : Bool} (hk : k < 6) (gf : fs[ix6 k]? = some f) (gb : bs[k]? = some b) : b = cmOf fs bs f := by
  have eb : bs.getD k false = b := by rw [List.getD_eq_getElem?_getD, gb]; rfl
  cases b with
  | true =>
    refine (List.any_eq_true.mpr ⟨k, List.mem_range.mpr hk, ?_⟩).symm
    rw [decide_eq_true gf, eb]; rfl
  | false =>
    refine (List.any_eq_false.mpr fun j hj z => ?_).symm
    rw [Bool.and_eq_true, decide_eq_true_iff] at z
    have e := nd_get nd gf z.1
    have : k = j := by rw [← ix6_inv k, e, ix6_inv]
    subst this
    rw [eb] at z
    exact absurd z.2 Bool.false_ne_true
end J
namespace J
open PySem L2
theorem SigCm.but {C : Addr} {H H' : Hp} {p s l : Addr} {fs : List Str} {cm : Str → Bool} (h : SigCm C H p fs cm) (q : St H s l) (b : But s H H') : SigCm C H' p fs cm := by
  obtain ⟨dx, n, d1, d2, d3, es, h1, h2⟩ := h
  obtain ⟨v, a, d, e⟩ := q.lst
  refine ⟨dx, n, d1, d2, d3, es, h1.keep fun x o ex m => b x o ex fun z => ?_, h2⟩
  subst z
  rw [e] at ex
  cases ex
  rcases List.mem_cons.mp m with z | m
  · have := h1.ob; rw [← z, e] at this; cases this
  rcases List.mem_cons.mp m with z | m
  · have := h1.nl
    rw [← z, e] at this
    cases es with
    | nil => cases this
    | cons x r => injection this with this; injection this with this; injection this with this _; cases this
  rcases List.mem_cons.mp m with z | m
  · have := h1.a1; rw [← z, e] at this; cases this
  rcases List.mem_cons.mp m with z | m
  · have := h1.a2; rw [← z, e] at this; cases this
  · rw [List.mem_singleton.mp m] at e
    have := h1.a3; rw [e] at this; cases this
theorem FlAt.but {H H' : Hp} {q s l : Addr} {fs : List Str} {cm : Str → Bool} (h : FlAt H q fs cm) (st : St H s l) (b : But s H H') : FlAt H' q fs cm := h.keep fun o e => b _ _ e fun z => by
  obtain ⟨⟨bs, h1, h2, _⟩, _⟩ := h
  obtain ⟨v, a, d, e2⟩ := st.lst
  rw [z, e2] at h1
  match bs, h2, h1 with
  | [], h2, _ => cases h2
  | x :: r, _, h1 => injection h1 with h1; injection h1 with h1; injection h1 with h1 _; cases h1
end J
namespace J
open PySem L2
theorem srts_app (cm : Str → Bool) : ∀ l r : List Tm, srts cm (l ++ r) = srts cm l ++ srts cm r
  | [], _ => rfl
  | t :: l, r => congrArg (srt cm t :: ·) (srts_app cm l r)
theorem szs_app2 : ∀ l r : List Tm, Tm.szs (l ++ r) = Tm.szs l + Tm.szs r
  | [], r => (Nat.zero_add _).symm
  | t :: l, r => by show t.sz + Tm.szs (l ++ r) = t.sz + Tm.szs l + Tm.szs r; rw [szs_app2 l r]; omega
theorem deps_app : ∀ l r : List Tm, Tm.deps (l ++ r) = max (Tm.deps l) (Tm.deps r)
  | [], r => by show Tm.deps r = max 0 (Tm.deps r); omega
  | t :: l, r => by show max t.dep (Tm.deps (l ++ r)) = max (max t.dep (Tm.deps l)) (Tm.deps r); rw [deps_app l r]; omega
theorem wfs_app {fs : List Str} {B : Int} : ∀ {l r : List Tm}, Tm.wfs fs B l → Tm.wfs fs B r → Tm.wfs fs B (l ++ r)
  | [], _, _, h => h
  | _ :: _, _, h, g => ⟨h.1, wfs_app h.2 g⟩
/-- a list u of arguments, each as the one of l up to the order of commutative operations -/
structure Alk (cm : Str → Bool) (fs : List Str) (B : Int) (us l : List Tm) : Prop where
  len : us.length = l.length
  wf : Tm.wfs fs B us
  sz : Tm.szs us = Tm.szs l
  dep : Tm.deps us = Tm.deps l
  srt : srts cm us = srts cm l
theorem Alk.nil {cm : Str → Bool} {fs : List Str} {B : Int} : Alk cm fs B [] [] := ⟨rfl, trivial, rfl, rfl, rfl⟩
theorem Alk.snoc {cm : Str → Bool} {fs : List Str} {B : Int} {us l : List Tm} {u t : Tm} (h : Alk cm fs B us l) (w : u.wf fs B) (z : u.sz = t.sz) (d : u.dep = t.dep) (s : J.srt cm u = J.srt cm t) : Alk cm fs B (us ++ [u]) (l ++ [t]) := by
  refine ⟨by rw [List.length_append, List.length_append, h.len]; rfl, wfs_app h.wf ⟨w, trivial⟩, ?_, ?_, ?_⟩
  · rw [szs_app2, szs_app2, h.sz]; show _ + (u.sz + 0) = _ + (t.sz + 0); rw [z]
  · rw [deps_app, deps_app, h.dep]; show max _ (max u.dep 0) = max _ (max t.dep 0); rw [d]
  · rw [srts_app, srts_app, h.srt]; show _ ++ [J.srt cm u] = _ ++ [J.srt cm t]; rw [s]
/-- two arguments exchanged -/
theorem Alk.swap {cm : Str → Bool} {fs : List Str} (nd : fs.Nodup) {B : Int} {a b : Tm} {l : List Tm} (h : Alk cm fs B [a, b] l) {f : Str} (hc : cm f = true) (w : (Tm.app f l).wf fs B) :
    (Tm.app f [b, a]).wf fs B ∧ (Tm.app f [b, a]).sz = (Tm.app f l).sz ∧ (Tm.app f [b, a]).dep = (Tm.app f l).dep ∧ J.srt cm (Tm.app f [b, a]) = J.srt cm (Tm.app f l) := by
  obtain ⟨⟨k, h1, h2⟩, w2⟩ := (show (∃ k, fs[k]? = some f ∧ l.length = ar k) ∧ Tm.wfs fs B l from w)
  obtain ⟨hl, hw, hz, hd, hs⟩ := h
  have wa := (srt_ok cm a hw.1).1
  have wb := (srt_ok cm b hw.2.1).1
  refine ⟨⟨⟨k, h1, by rw [← h2, ← hl]; rfl⟩, hw.2.1, hw.1, trivial⟩, ?_, ?_, ?_⟩
  · show 1 + Tm.szs [b, a] = 1 + Tm.szs l
    rw [← hz, perm_szs (.swap a b [])]
  · show 1 + Tm.deps [b, a] = 1 + Tm.deps l
    rw [← hd, perm_deps (.swap a b [])]
  · show Tm.app f (if cm f = true then sort2 [J.srt cm b, J.srt cm a] else _) = Tm.app f (if cm f = true then sort2 (srts cm l) else _)
    rw [if_pos hc, if_pos hc, ← hs, sort2_swap nd wa wb]; rfl
theorem Alk.app {cm : Str → Bool} {fs : List Str} {B : Int} {us l : List Tm} (h : Alk cm fs B us l) {f : Str} (w : (Tm.app f l).wf fs B) :
    (Tm.app f us).wf fs B ∧ (Tm.app f us).sz = (Tm.app f l).sz ∧ (Tm.app f us).dep = (Tm.app f l).dep ∧ J.srt cm (Tm.app f us) = J.srt cm (Tm.app f l) := by
  obtain ⟨⟨k, h1, h2⟩, w2⟩ := (show (∃ k, fs[k]? = some f ∧ l.length = ar k) ∧ Tm.wfs fs B l from w)
  refine ⟨⟨⟨k, h1, h.len.trans h2⟩, h.wf⟩, congrArg (1 + ·) h.sz, congrArg (1 + ·) h.dep, ?_⟩
  show Tm.app f (if cm f = true then sort2 (srts cm us) else srts cm us) = Tm.app f (if cm f = true then sort2 (srts cm l) else srts cm l)
  rw [h.srt]
theorem wf_two {fs : List Str} (nd : fs.Nodup) {B : Int} {cm : Str → Bool} {f : Str} {l : List Tm} (two : ∀ (k : Nat) (f : Str), fs[k]? = some f → cm f = true → ar k = 2) (hc : cm f = true) (w : (Tm.app f l).wf fs B) : l.length = 2 := by
  obtain ⟨⟨k, h1, h2⟩, w2⟩ := (show (∃ k, fs[k]? = some f ∧ l.length = ar k) ∧ Tm.wfs fs B l from w)
  rw [h2]; exact two k f h1 hc
theorem wf_mem {fs : List Str} {B : Int} {f : Str} {l : List Tm} (w : (Tm.app f l).wf fs B) : f ∈ fs := by
  obtain ⟨⟨k, h1, h2⟩, w2⟩ := (show (∃ k, fs[k]? = some f ∧ l.length = ar k) ∧ Tm.wfs fs B l from w)
  exact List.mem_of_getElem? h1
end J
namespace J
open PySem L2
theorem ar_len {fs : List Str} (h6 : fs.length ≤ 6) {B : Int} {f : Str} {l : List Tm} (w : (Tm.app f l).wf fs B) : l.length ≤ 3 := by
  obtain ⟨⟨k, h1, h2⟩, _⟩ := (show (∃ k, fs[k]? = some f ∧ l.length = ar k) ∧ Tm.wfs fs B l from w)
  rw [h2]
  exact ar_le (by have := (List.getElem?_eq_some_iff.mp h1).1; omega)
end J
namespace J
open PySem PySem.Spec PyProof.Rows L2
theorem rows_first : ∀ (k : Nat) (xs ys : List V) (x y : V), xs.length = ys.length → xs.take k = ys.take k → xs[k]? = some x → ys[k]? = some y → SymOk x → SymOk y → x ≠ y →
    lexLt itemOrd (PySem.W.keyToksAll (xs.map rowD)) (PySem.W.keyToksAll (ys.map rowD)) = PySem.W.dataLt (rowD x) (rowD y)
  | _, [], _, _, _, _, _, h, _, _, _, _ => by simp at h
  | _, _ :: _, [], _, _, _, _, _, h, _, _, _ => by simp at h
  | 0, a :: xs, b :: ys, x, y, _, _, hx, hy, ox, oy, ne => by
    cases (show some a = some x from hx)
    cases (show some b = some y from hy)
    show lexLt itemOrd (PySem.W.keyToksAll (rowD a :: xs.map rowD)) (PySem.W.keyToksAll (rowD b :: ys.map rowD)) = _
    rw [PySem.W.dataLt_all_no (rowD_alike a b) (part_sym ox oy ne).2]
  | k + 1, a :: xs, b :: ys, x, y, l, t, hx, hy, ox, oy, ne => by
    have t : a :: xs.take k = b :: ys.take k := t
    obtain ⟨e, t2⟩ := List.cons.inj t
    subst e
    show lexLt itemOrd (PySem.W.keyToksAll (rowD a :: xs.map rowD)) (PySem.W.keyToksAll (rowD a :: ys.map rowD)) = _
    have al := rowD_alike a a
    rw [PySem.W.dataLt_all_yes al (PySem.W.eqv_refl_alike _ al)]
    exact rows_first k xs ys x y (Nat.succ.inj l) t2 hx hy ox oy ne
theorem klt_len {t r : Tm} (h : (syms t).length ≠ (syms r).length) : klt t r = decide ((syms t).length < (syms r).length) := by
  show lexLt itemOrd (PySem.W.keyToksAll (keyL t)) (PySem.W.keyToksAll (keyL r)) = _
  have ne : (Sum.inl ((syms t).length : Int) : Int ⊕ List Nat) ≠ .inl ((syms r).length : Int) := fun z => h (by have := Sum.inl.inj z; omega)
  rw [toks_keyL, toks_keyL, lex_self, lex_diff ne]
  show decide (((syms t).length : Int) < ((syms r).length : Int)) = _
  exact decide_eq_decide.mpr (by omega)
theorem klt_first {fs : List Str} (hn : Names fs) {B C : Int} (hB : B ≤ 100) (hC : C ≤ 100) {t r : Tm} (wt : t.wf fs B) (wr : r.wf fs C) {k : Nat} {x y : V} (l : (syms t).length = (syms r).length) (e : (syms t).take k = (syms r).take k) (hx : (syms t)[k]? = some x) (hy : (syms r)[k]? = some y) (ne : x ≠ y) :
    klt t r = PySem.W.dataLt (rowD x) (rowD y) := by
  have ox := syms_ok hn hB t wt x (List.mem_of_getElem? hx)
  have oy := syms_ok hn hC r wr y (List.mem_of_getElem? hy)
  have rf := rows_first k _ _ x y l e hx hy ox oy ne
  show lexLt itemOrd (PySem.W.keyToksAll (keyL t)) (PySem.W.keyToksAll (keyL r)) = _
  rw [toks_keyL, toks_keyL, l, lex_self, lex_self, lex_self]
  have al : PySem.W.alike (.list ((syms t).map rowD)) (.list ((syms r).map rowD)) = true := rows_alike _ _
  have q : PyData.eqv (.list ((syms t).map rowD)) (.list ((syms r).map rowD)) = false := by
    cases q : PyData.eqv (.list ((syms t).map rowD)) (.list ((syms r).map rowD)) with
    | false => rfl
    | true =>
      have := row_inj _ _ (fun y hy => syms_kind t y hy) (fun y hy => syms_kind r y hy) ((PySem.W.toks_eqv _ _ al).1 q)
      rw [this, hy] at hx
      exact absurd (Option.some.inj hx).symm ne
  have h3 := (PySem.W.toks_eqv _ _ al).2 q [.inl 0] [.inl 0]
  have h3 : lexLt itemOrd (PySem.W.keyToksAll ((syms t).map rowD) ++ [.inl 0]) (PySem.W.keyToksAll ((syms r).map rowD) ++ [.inl 0]) = lexLt itemOrd (PySem.W.keyToksAll ((syms t).map rowD)) (PySem.W.keyToksAll ((syms r).map rowD)) := h3
  rw [h3, rf]
theorem kcmp_of_lt {t r : Tm} {n : Int} (h : klt t r = true) (e : n = -1) : n = kcmp t r := by unfold kcmp; rw [if_pos h, e]
theorem kcmp_of_gt {t r : Tm} {n : Int} (h : klt r t = true) (e : n = 1) : n = kcmp t r := by unfold kcmp; rw [if_neg (by rw [klt_asym h]; exact Bool.false_ne_true), if_pos h, e]
theorem kcmp_neg {t r : Tm} : kcmp t r < 0 ↔ klt t r = true := by
  unfold kcmp
  by_cases h : klt t r = true
  · rw [if_pos h]; exact ⟨fun _ => h, fun _ => by decide⟩
  · rw [if_neg h]
    refine ⟨fun z => ?_, fun z => absurd z h⟩
    split at z <;> exact absurd z (by decide)
end J
/-! sorted(list of terms, key=order_key) -/
namespace J
open PySem PySem.Spec PyProof.Rows L2
def kle (a b : Tm) : Bool := !klt b a
def srtK (us : List Tm) : List Tm := us.mergeSort kle
theorem kle_total (a b : Tm) : (kle a b || kle b a) = true := by
  unfold kle
  cases e : klt b a with
  | false => rfl
  | true => rw [klt_asym e]; rfl
theorem kle_trans (a b c : Tm) (h1 : kle a b = true) (h2 : kle b c = true) : kle a c = true := by
  unfold kle at *
  have h1 : klt b a = false := by simpa using h1
  have h2 : klt c b = false := by simpa using h2
  cases e : klt c a with
  | false => rfl
  | true =>
    cases f : klt b c with
    | true =>
      have : klt b a = true := lex_trans _ _ _ f e
      rw [h1] at this; cases this
    | false =>
      have := lex_total _ _ f h2
      have g : klt b a = klt c a := by
        show lexLt itemOrd (PySem.W.keyToksAll (keyL b)) _ = lexLt itemOrd (PySem.W.keyToksAll (keyL c)) _
        rw [this]
      rw [h1, e] at g; cases g
theorem srtK_perm (us : List Tm) : (srtK us).Perm us := List.mergeSort_perm _ _
theorem srtK_sorted (us : List Tm) : (srtK us).Pairwise fun a b => kle a b = true := List.pairwise_mergeSort kle_trans kle_total us
theorem kle_anti {fs : List Str} (nd : fs.Nodup) {B : Int} {a b : Tm} (wa : a.wf fs B) (wb : b.wf fs B) (h1 : kle a b = true) (h2 : kle b a = true) : a = b := by
  unfold kle at *
  exact klt_tri nd wa wb (by simpa using h2) (by simpa using h1)
/-- the sorted list is the only one -/
theorem srtK_only {fs : List Str} (nd : fs.Nodup) {B : Int} {us l : List Tm} (w : Tm.wfs fs B us) (p : l.Perm us) (s : l.Pairwise fun a b => kle a b = true) : l = srtK us :=
  List.Perm.eq_of_pairwise (fun a b ha hb h1 h2 => kle_anti nd (Tm.wf_of_mem w (p.subset ha)) (Tm.wf_of_mem w ((srtK_perm us).subset hb)) h1 h2) s (srtK_sorted us) (p.trans (srtK_perm us).symm)
theorem srtK_two {fs : List Str} (nd : fs.Nodup) {B : Int} {us : List Tm} (w : Tm.wfs fs B us) (l2 : us.length = 2) : srtK us = sort2 us := by
  match us, l2 with
  | [a, b], _ =>
    refine (srtK_only nd w (sort2_perm _) ?_).symm
    show (if klt b a = true then [b, a] else [a, b]).Pairwise _
    have one : ∀ x y : Tm, kle x y = true → [x, y].Pairwise fun a b => kle a b = true := fun x y h => .cons (fun z hz => by rw [List.mem_singleton.mp hz]; exact h) (.cons (fun z hz => nomatch hz) .nil)
    by_cases h : klt b a = true
    · rw [if_pos h]; refine one b a ?_
      unfold kle; rw [klt_asym h]; rfl
    · rw [if_neg h]; refine one a b ?_
      unfold kle; rw [show klt b a = false by simpa using h]; rfl
def KyIn (H : Hp) (v : V) (t : Tm) : Prop := ∃ p : Addr, v = .ref p ∧ H p = some (.tup [.int ((syms t).length : Int), .str (keyS t)])
theorem KyIn.same {H H' : Hp} {v : V} {t : Tm} (h : KyIn H v t) (s : Same H H') : KyIn H' v t := by
  obtain ⟨p, rfl, h1⟩ := h
  exact ⟨p, rfl, s _ _ h1⟩
def KysIn (H : Hp) : List V → List Tm → Prop
  | [], ts => ts = []
  | v :: vs, ts => ∃ t r, ts = t :: r ∧ KyIn H v t ∧ KysIn H vs r
theorem KysIn.same {H H' : Hp} (s : Same H H') : ∀ {vs : List V} {ts : List Tm}, KysIn H vs ts → KysIn H' vs ts
  | [], _, h => h
  | _ :: _, _, ⟨t, r, e, h, g⟩ => ⟨t, r, e, h.same s, KysIn.same s g⟩
theorem KysIn.snoc {H : Hp} : ∀ {vs : List V} {ts : List Tm} {v : V} {t : Tm}, KysIn H vs ts → KyIn H v t → KysIn H (vs ++ [v]) (ts ++ [t])
  | [], _, v, t, h, g => by cases (show _ = [] from h); exact ⟨t, [], rfl, g, rfl⟩
  | _ :: _, _, v, t, ⟨t', r, e, h, q⟩, g => ⟨t', r ++ [t], by rw [e]; rfl, h, KysIn.snoc q g⟩
theorem KysIn.dp {K : PySem.W.Frag} {H : Hp} : ∀ {vs : List V} {ts : List Tm}, KysIn H vs ts → DpAll K H vs (ts.map fun t => PyData.tuple (keyT t))
  | [], _, h => by cases (show _ = [] from h); exact .nil
  | _ :: _, _, ⟨t, r, e, ⟨p, ev, h⟩, q⟩ => by
    subst e; subst ev
    exact .cons (.tup (SqT.of h) (.cons (.int _) (.cons (.str _) .nil))) (KysIn.dp q)
theorem zip_in {H : Hp} : ∀ {us : List Tm} {xs : List V}, TmsIn H us xs → ∀ z ∈ xs.zip us, TmIn H z.2 z.1
  | [], xs, h, z, m => by cases (show xs = [] from h); cases m
  | t :: us, _, ⟨v, r, e, h, q⟩, z, m => by
    subst e
    rcases List.mem_cons.mp (show z ∈ (v, t) :: r.zip us from m) with e | m
    · rw [e]; exact h
    · exact zip_in q z m
theorem in_zip {H : Hp} : ∀ {zs : List (V × Tm)}, (∀ z ∈ zs, TmIn H z.2 z.1) → TmsIn H (zs.map Prod.snd) (zs.map Prod.fst)
  | [], _ => rfl
  | z :: zs, h => ⟨z.1, zs.map Prod.fst, rfl, h z (List.mem_cons_self ..), in_zip fun y hy => h y (List.mem_cons_of_mem _ hy)⟩
theorem keyT_alike (t r : Tm) : PySem.W.alike (.tuple (keyT t)) (.tuple (keyT r)) = true := rfl
theorem sort_terms {K : PySem.W.Frag} {fa : Addr} {sp : Sp} {H : Hp} {a : Addr} {xs : List V} {us : List Tm} {Q : VK} {fs : List Str} {B : Int} (hn : Names fs) (hB : B ≤ 100)
    (hsp : ∀ v t H' (Q' : VK), TmIn H' t v → t ∈ us → (∀ k H'', Same H' H'' → KyIn H'' k t → Q' k H'') → sp [v] H' Q' E0)
    (hx : H a = some (.lst xs)) (hu : TmsIn H us xs) (hw : Tm.wfs fs B us)
    (q : ∀ p ys H', Same H H' → H p = none → H' p = some (.lst ys) → TmsIn H' (srtK us) ys → Q (.ref p) H') : rSortF K fa sp [.ref a] [.ref fa] H Q := by
  have hl := hu.length
  refine ⟨a, xs, fun i ks H' => Same H H' ∧ KysIn H' ks (us.take i), rfl, rfl, SqL.of hx, ⟨Same.refl _, rfl⟩, fun i x ks H' gx ⟨s, hk⟩ => ?_, fun ks H' ⟨s, hk⟩ => ?_⟩
  · obtain ⟨t, gt, ht⟩ := hu.get gx
    refine hsp x t H' _ (ht.tu (tu_same s)) (List.mem_of_getElem? gt) fun k H'' s2 hk2 => ⟨s.trans s2, ?_⟩
    rw [list_take_succ gt]
    exact (hk.same s2).snoc hk2
  · rw [hl, List.take_length] at hk
    refine ⟨us.map fun t => PyData.tuple (keyT t), hk.dp, by rw [List.length_map, hl], PySem.W.AllAlike.of fun b b' => keyT_alike b b', PySem.W.Sortable.tuples fun b => ⟨_, _, rfl⟩, fun d hd => ?_, fun p np np' => ?_⟩
    · obtain ⟨t, _, rfl⟩ := List.mem_map.mp hd
      exact (by decide : (1 : Nat) ≤ 60)
    · refine q p _ _ (same_mut s np _) np upd_same ?_
      have e1 : xs.zip (us.map fun t => PyData.tuple (keyT t)) = (xs.zip us).map fun z => (z.1, PyData.tuple (keyT z.2)) := by
        rw [List.zip_map_right]; rfl
      have hmem : ∀ z ∈ xs.zip us, z.2 ∈ us := fun z m => (List.of_mem_zip (a := z.1) (b := z.2) m).2
      have e2 : ((xs.zip us).map fun z => (z.1, PyData.tuple (keyT z.2))).mergeSort (PySem.W.dataLe false Prod.snd) = ((xs.zip us).mergeSort fun z w => kle z.2 w.2).map fun z => (z.1, PyData.tuple (keyT z.2)) := by
        refine (List.map_mergeSort fun z hz w hw' => ?_).symm
        rw [PySem.W.dataLe_eq]
        show (!klt w.2 z.2) = (!PySem.W.dataLt (PyData.tuple (keyT w.2)) (PyData.tuple (keyT z.2)))
        rw [key_lt hn hB hB (Tm.wf_of_mem hw (hmem w hw')) (Tm.wf_of_mem hw (hmem z hz))]
      have e3 : srtK us = ((xs.zip us).mergeSort fun z w => kle z.2 w.2).map Prod.snd := by
        have em : (xs.zip us).map Prod.snd = us := List.map_snd_zip (by omega)
        rw [List.map_mergeSort (s := kle) fun z _ w _ => rfl, em]; rfl
      rw [e1, e2, e3, List.map_map]
      refine in_zip (H := _) fun z hz => ?_
      have := zip_in hu z ((List.mergeSort_perm _ _).subset hz)
      exact this.tu (tu_same (same_mut s np _))
end J
/-! alike: equal sorted forms -/
namespace J
open PySem L2
theorem two_eq {α : Type} {a b c d : α} (p : [a, b].Perm [c, d]) : (a = c ∧ b = d) ∨ (a = d ∧ b = c) := by
  have ha : a ∈ [c, d] := p.subset (List.mem_cons_self ..)
  rcases List.mem_cons.mp ha with e | ha
  · subst e
    exact .inl ⟨rfl, List.singleton_perm_singleton.mp ((List.perm_cons a).mp p)⟩
  · have e := List.mem_singleton.mp ha
    subst e
    have p2 : [a, b].Perm [a, c] := p.trans (.swap a c [])
    exact .inr ⟨rfl, List.singleton_perm_singleton.mp ((List.perm_cons a).mp p2)⟩
theorem sort2_eq {fs : List Str} (nd : fs.Nodup) {B : Int} {a b c d : Tm} (wc : c.wf fs B) (wd : d.wf fs B) : sort2 [a, b] = sort2 [c, d] ↔ (a = c ∧ b = d) ∨ (a = d ∧ b = c) := by
  constructor
  · intro e
    exact two_eq ((sort2_perm [a, b]).symm.trans (e ▸ sort2_perm [c, d]))
  · rintro (⟨rfl, rfl⟩ | ⟨rfl, rfl⟩)
    · rfl
    · exact sort2_swap nd wd wc |>.symm ▸ rfl
/-- equal sorted forms, argument by argument -/
theorem srt_eq {fs : List Str} (nd : fs.Nodup) {B : Int} {cm : Str → Bool} {f : Str} {ts us : List Tm} (hc : cm f = true) {t1 t2 u1 u2 : Tm} (et : ts = [t1, t2]) (eu : us = [u1, u2]) (w1 : u1.wf fs B) (w2 : u2.wf fs B) :
    srt cm (.app f ts) = srt cm (.app f us) ↔ (srt cm t1 = srt cm u1 ∧ srt cm t2 = srt cm u2) ∨ (srt cm t1 = srt cm u2 ∧ srt cm t2 = srt cm u1) := by
  subst et; subst eu
  have e : ∀ l : List Tm, srt cm (.app f l) = .app f (sort2 (srts cm l)) := fun l => by
    show Tm.app f (if cm f = true then sort2 (srts cm l) else srts cm l) = _
    rw [if_pos hc]
  rw [e, e]
  have := sort2_eq (a := srt cm t1) (b := srt cm t2) nd (srt_ok cm u1 w1).1 (srt_ok cm u2 w2).1
  constructor
  · intro z; injection z with _ z; exact this.mp z
  · intro z; rw [show sort2 (srts cm [t1, t2]) = sort2 (srts cm [u1, u2]) from this.mpr z]
theorem srt_plain {cm : Str → Bool} {f : Str} {ts us : List Tm} (hc : cm f = false) : srt cm (.app f ts) = srt cm (.app f us) ↔ srts cm ts = srts cm us := by
  have e : ∀ l : List Tm, srt cm (.app f l) = .app f (srts cm l) := fun l => by
    show Tm.app f (if cm f = true then sort2 (srts cm l) else srts cm l) = _
    rw [if_neg (by rw [hc]; exact Bool.false_ne_true)]
  rw [e, e]
  exact ⟨fun z => by injection z, fun z => by rw [z]⟩
theorem srt_of_plain {cm : Str → Bool} {f : Str} {ts us : List Tm} (h : srts cm ts = srts cm us) : srt cm (.app f ts) = srt cm (.app f us) := by
  show Tm.app f (if cm f = true then sort2 (srts cm ts) else srts cm ts) = Tm.app f (if cm f = true then sort2 (srts cm us) else srts cm us)
  rw [h]
theorem srt_name {cm : Str → Bool} {f g : Str} {ts us : List Tm} (h : srt cm (.app f ts) = srt cm (.app g us)) : f = g := by
  have h : Tm.app f _ = Tm.app g _ := h
  injection h
theorem srt_len {cm : Str → Bool} {f g : Str} {ts us : List Tm} (h : srt cm (.app f ts) = srt cm (.app g us)) : ts.length = us.length := by
  have h : Tm.app f (if cm f = true then sort2 (srts cm ts) else srts cm ts) = Tm.app g (if cm g = true then sort2 (srts cm us) else srts cm us) := h
  injection h with e h
  have l : ∀ (b : Bool) (l : List Tm), (if b = true then sort2 (srts cm l) else srts cm l).length = l.length := fun b l => by
    have e : (srts cm l).length = l.length := by rw [srts_map, List.length_map]
    split
    · rw [(sort2_perm _).length_eq, e]
    · exact e
  have := congrArg List.length h
  rwa [l, l] at this
end J

/-! ### combined forms: associative and commutative operations -/
namespace J
open PySem L2
/-- f(a, f(b, c)) of [a, b, c] -/
def fld (f : Str) : List Tm → Tm
  | [] => .var 0
  | [t] => t
  | t :: u :: r => .app f [t, fld f (u :: r)]
mutual
def cmb (cm : Str → Bool) : Tm → Tm
  | .var n => .var n
  | .app f ts => if cm f = true then fld f (srtK (flns cm f ts)) else .app f (cmbs cm ts)
def fln (cm : Str → Bool) (g : Str) : Tm → List Tm
  | .var n => [.var n]
  | .app f ts => if f = g then flns cm g ts else [if cm f = true then fld f (srtK (flns cm f ts)) else .app f (cmbs cm ts)]
def flns (cm : Str → Bool) (g : Str) : List Tm → List Tm
  | [] => []
  | t :: ts => fln cm g t ++ flns cm g ts
def cmbs (cm : Str → Bool) : List Tm → List Tm
  | [] => []
  | t :: ts => cmb cm t :: cmbs cm ts
end
/-- headed by g -/
def hd (g : Str) : Tm → Bool
  | .var _ => false
  | .app f _ => decide (f = g)
theorem fln_other {cm : Str → Bool} {g : Str} : ∀ {t : Tm}, hd g t = false → fln cm g t = [cmb cm t]
  | .var _, _ => rfl
  | .app f ts, h => if_neg (of_decide_eq_false h)
theorem fln_head {cm : Str → Bool} {g : Str} {ts : List Tm} : fln cm g (.app g ts) = flns cm g ts := if_pos rfl
theorem cmb_listed {cm : Str → Bool} {f : Str} {ts : List Tm} (h : cm f = true) : cmb cm (.app f ts) = fld f (srtK (flns cm f ts)) := if_pos h
theorem cmb_plain {cm : Str → Bool} {f : Str} {ts : List Tm} (h : cm f = false) : cmb cm (.app f ts) = .app f (cmbs cm ts) := if_neg (by rw [h]; exact Bool.false_ne_true)
theorem cmbs_map (cm : Str → Bool) : ∀ ts : List Tm, cmbs cm ts = ts.map (cmb cm)
  | [] => rfl
  | t :: ts => congrArg (cmb cm t :: ·) (cmbs_map cm ts)
theorem cmbs_app (cm : Str → Bool) (l r : List Tm) : cmbs cm (l ++ r) = cmbs cm l ++ cmbs cm r := by rw [cmbs_map, cmbs_map, cmbs_map, List.map_append]
-- leaves and unary nodes
mutual
def Tm.lu : Tm → Nat
  | .var _ => 1
  | .app _ ts => Tm.lus ts + if ts.length ≤ 1 then 1 else 0
def Tm.lus : List Tm → Nat
  | [] => 0
  | t :: ts => Tm.lu t + Tm.lus ts
end
theorem lus_app : ∀ l r : List Tm, Tm.lus (l ++ r) = Tm.lus l + Tm.lus r
  | [], r => (Nat.zero_add _).symm
  | t :: l, r => by show t.lu + Tm.lus (l ++ r) = t.lu + Tm.lus l + Tm.lus r; rw [lus_app l r]; omega
theorem perm_lus : ∀ {l r : List Tm}, l.Perm r → Tm.lus l = Tm.lus r
  | _, _, .nil => rfl
  | _, _, .cons x h => congrArg (x.lu + ·) (perm_lus h)
  | _, _, .swap x y l => by show y.lu + (x.lu + Tm.lus l) = x.lu + (y.lu + Tm.lus l); omega
  | _, _, .trans a b => (perm_lus a).trans (perm_lus b)
mutual
theorem Tm.lu_pos : ∀ t : Tm, 1 ≤ t.lu
  | .var _ => Nat.le_refl _
  | .app _ ts => by
    show 1 ≤ Tm.lus ts + if ts.length ≤ 1 then 1 else 0
    split
    · omega
    · have := Tm.lus_pos ts; omega
theorem Tm.lus_pos : ∀ ts : List Tm, ts.length ≤ Tm.lus ts
  | [] => Nat.le_refl _
  | t :: ts => by
    have a := Tm.lu_pos t
    have b := Tm.lus_pos ts
    show ts.length + 1 ≤ t.lu + Tm.lus ts
    omega
end
mutual
theorem Tm.dep_lu : ∀ t : Tm, t.dep ≤ t.lu
  | .var _ => Nat.le_refl _
  | .app _ ts => by
    show 1 + Tm.deps ts ≤ Tm.lus ts + if ts.length ≤ 1 then 1 else 0
    have h := Tm.deps_lus ts
    split
    · omega
    · omega
theorem Tm.deps_lus : ∀ ts : List Tm, Tm.deps ts + (ts.length - 1) ≤ Tm.lus ts
  | [] => Nat.le_refl _
  | t :: ts => by
    have a := Tm.dep_lu t
    have a1 := Tm.lu_pos t
    have b := Tm.deps_lus ts
    have c := Tm.lus_pos ts
    show max t.dep (Tm.deps ts) + (ts.length + 1 - 1) ≤ t.lu + Tm.lus ts
    omega
end
theorem fld_szs (f : Str) : ∀ l : List Tm, l ≠ [] → (fld f l).sz + 1 = Tm.szs l + l.length
  | [], h => absurd rfl h
  | [t], _ => by show t.sz + 1 = t.sz + 0 + 1; omega
  | t :: u :: r, _ => by
    have := fld_szs f (u :: r) (List.cons_ne_nil _ _)
    show 1 + (t.sz + ((fld f (u :: r)).sz + 0)) + 1 = t.sz + Tm.szs (u :: r) + ((u :: r).length + 1)
    omega
theorem fld_lus (f : Str) : ∀ l : List Tm, l ≠ [] → (fld f l).lu = Tm.lus l
  | [], h => absurd rfl h
  | [t], _ => by show t.lu = t.lu + 0; omega
  | t :: u :: r, _ => by
    have := fld_lus f (u :: r) (List.cons_ne_nil _ _)
    show (t.lu + ((fld f (u :: r)).lu + 0)) + (if 2 ≤ 1 then 1 else 0) = t.lu + Tm.lus (u :: r)
    rw [if_neg (by decide)]; omega
theorem fld_wf {fs : List Str} {B : Int} {f : Str} {k : Nat} (hf : fs[k]? = some f) (h2 : ar k = 2) : ∀ l : List Tm, l ≠ [] → Tm.wfs fs B l → (fld f l).wf fs B
  | [], h, _ => absurd rfl h
  | [t], _, w => w.1
  | t :: u :: r, _, w => ⟨⟨k, hf, h2.symm⟩, w.1, fld_wf hf h2 (u :: r) (List.cons_ne_nil _ _) w.2, trivial⟩
/-- what is kept of a term -/
structure CbOk (fs : List Str) (B : Int) (t u : Tm) : Prop where
  wf : u.wf fs B
  sz : u.sz = t.sz
  lu : u.lu = t.lu
section
variable {fs : List Str} {B : Int} {cm : Str → Bool} (two : ∀ (k : Nat) (f : Str), fs[k]? = some f → cm f = true → ar k = 2)
include two
mutual
theorem cmb_ok : ∀ t : Tm, t.wf fs B → CbOk fs B t (cmb cm t)
  | .var _, w => ⟨w, rfl, rfl⟩
  | .app f ts, w => by
    obtain ⟨⟨k, h1, h2⟩, w2⟩ := (show (∃ k, fs[k]? = some f ∧ ts.length = ar k) ∧ Tm.wfs fs B ts from w)
    cases hc : cm f with
    | true =>
      have l2 : ts.length = 2 := h2.trans (two k f h1 hc)
      obtain ⟨a, b, c, d⟩ := flns_ok f hc ts w2
      have p := srtK_perm (flns cm f ts)
      have pl := p.length_eq
      have ne : srtK (flns cm f ts) ≠ [] := fun z => by rw [z] at pl; have : (0 : Nat) = _ := pl; omega
      rw [cmb_listed hc]
      refine ⟨fld_wf h1 (two k f h1 hc) _ ne (perm_wfs p a), ?_, ?_⟩
      · have := fld_szs f _ ne
        rw [perm_szs p, pl] at this
        show _ = 1 + Tm.szs ts
        omega
      · rw [fld_lus f _ ne, perm_lus p, c]
        show _ = Tm.lus ts + if ts.length ≤ 1 then 1 else 0
        rw [if_neg (by omega)]; rfl
    | false =>
      obtain ⟨a, b, c, d⟩ := cmbs_ok ts w2
      rw [cmb_plain hc]
      refine ⟨⟨⟨k, h1, d.trans h2⟩, a⟩, by show 1 + _ = 1 + _; rw [b], ?_⟩
      show Tm.lus _ + (if (cmbs cm ts).length ≤ 1 then 1 else 0) = Tm.lus ts + if ts.length ≤ 1 then 1 else 0
      rw [c, d]
theorem fln_ok (g : Str) (hg : cm g = true) : ∀ t : Tm, t.wf fs B → Tm.wfs fs B (fln cm g t) ∧ Tm.szs (fln cm g t) + (fln cm g t).length = t.sz + 1 ∧ Tm.lus (fln cm g t) = t.lu ∧ 1 ≤ (fln cm g t).length
  | .var _, w => ⟨⟨w, trivial⟩, rfl, rfl, Nat.le_refl _⟩
  | .app f ts, w => by
    by_cases e : f = g
    · subst e
      obtain ⟨⟨k, h1, h2⟩, w2⟩ := (show (∃ k, fs[k]? = some f ∧ ts.length = ar k) ∧ Tm.wfs fs B ts from w)
      have l2 : ts.length = 2 := h2.trans (two k f h1 hg)
      obtain ⟨a, b, c, d⟩ := flns_ok f hg ts w2
      rw [fln_head]
      refine ⟨a, by show _ = 1 + Tm.szs ts + 1; omega, ?_, by omega⟩
      rw [c]
      show _ = Tm.lus ts + if ts.length ≤ 1 then 1 else 0
      rw [if_neg (by omega)]; rfl
    · have h : CbOk fs B (.app f ts) (cmb cm (.app f ts)) := by
        obtain ⟨⟨k, h1, h2⟩, w2⟩ := (show (∃ k, fs[k]? = some f ∧ ts.length = ar k) ∧ Tm.wfs fs B ts from w)
        cases hc : cm f with
        | true =>
          have l2 : ts.length = 2 := h2.trans (two k f h1 hc)
          obtain ⟨a, b, c, d⟩ := flns_ok f hc ts w2
          have p := srtK_perm (flns cm f ts)
          have pl := p.length_eq
          have ne : srtK (flns cm f ts) ≠ [] := fun z => by rw [z] at pl; have : (0 : Nat) = _ := pl; omega
          rw [cmb_listed hc]
          refine ⟨fld_wf h1 (two k f h1 hc) _ ne (perm_wfs p a), ?_, ?_⟩
          · have := fld_szs f _ ne
            rw [perm_szs p, pl] at this
            show _ = 1 + Tm.szs ts
            omega
          · rw [fld_lus f _ ne, perm_lus p, c]
            show _ = Tm.lus ts + if ts.length ≤ 1 then 1 else 0
            rw [if_neg (by omega)]; rfl
        | false =>
          obtain ⟨a, b, c, d⟩ := cmbs_ok ts w2
          rw [cmb_plain hc]
          refine ⟨⟨⟨k, h1, d.trans h2⟩, a⟩, by show 1 + _ = 1 + _; rw [b], ?_⟩
          show Tm.lus _ + (if (cmbs cm ts).length ≤ 1 then 1 else 0) = Tm.lus ts + if ts.length ≤ 1 then 1 else 0
          rw [c, d]
      rw [fln_other (t := .app f ts) (decide_eq_false e)]
      refine ⟨⟨h.wf, trivial⟩, by have := h.sz; show _ + 0 + 1 = _; omega, by have := h.lu; show _ + 0 = _; omega, Nat.le_refl _⟩
theorem flns_ok (g : Str) (hg : cm g = true) : ∀ ts : List Tm, Tm.wfs fs B ts → Tm.wfs fs B (flns cm g ts) ∧ Tm.szs (flns cm g ts) + (flns cm g ts).length = Tm.szs ts + ts.length ∧ Tm.lus (flns cm g ts) = Tm.lus ts ∧ ts.length ≤ (flns cm g ts).length
  | [], _ => ⟨trivial, rfl, rfl, Nat.le_refl _⟩
  | t :: ts, w => by
    obtain ⟨a, b, c, d⟩ := fln_ok g hg t w.1
    obtain ⟨a2, b2, c2, d2⟩ := flns_ok g hg ts w.2
    have e : flns cm g (t :: ts) = fln cm g t ++ flns cm g ts := rfl
    rw [e]
    refine ⟨wfs_app a a2, ?_, ?_, ?_⟩
    · rw [szs_app2, List.length_append]
      show _ = t.sz + Tm.szs ts + (ts.length + 1)
      omega
    · rw [lus_app, c, c2]; rfl
    · rw [List.length_append]; show ts.length + 1 ≤ _; omega
theorem cmbs_ok : ∀ ts : List Tm, Tm.wfs fs B ts → Tm.wfs fs B (cmbs cm ts) ∧ Tm.szs (cmbs cm ts) = Tm.szs ts ∧ Tm.lus (cmbs cm ts) = Tm.lus ts ∧ (cmbs cm ts).length = ts.length
  | [], _ => ⟨trivial, rfl, rfl, rfl⟩
  | t :: ts, w => by
    have a := cmb_ok t w.1
    obtain ⟨a2, b2, c2, d2⟩ := cmbs_ok ts w.2
    refine ⟨⟨a.wf, a2⟩, ?_, ?_, congrArg (· + 1) d2⟩
    · show _ + _ = _ + _
      rw [a.sz, b2]
    · show _ + _ = _ + _
      rw [a.lu, c2]
end
end
-- the parts of a term headed by g, left to right
mutual
def prt (g : Str) : Tm → List Tm
  | .var n => [.var n]
  | .app f ts => if f = g then prts g ts else [.app f ts]
def prts (g : Str) : List Tm → List Tm
  | [] => []
  | t :: ts => prt g t ++ prts g ts
end
theorem prt_other {g : Str} : ∀ {t : Tm}, hd g t = false → prt g t = [t]
  | .var _, _ => rfl
  | .app f ts, h => if_neg (of_decide_eq_false h)
theorem prt_head {g : Str} {ts : List Tm} : prt g (.app g ts) = prts g ts := if_pos rfl
mutual
theorem prt_fln (cm : Str → Bool) (g : Str) : ∀ t : Tm, fln cm g t = (prt g t).map (cmb cm)
  | .var _ => rfl
  | .app f ts => by
    by_cases e : f = g
    · subst e
      rw [fln_head, prt_head]; exact prts_flns cm f ts
    · rw [fln_other (t := .app f ts) (decide_eq_false e), prt_other (t := .app f ts) (decide_eq_false e)]; rfl
theorem prts_flns (cm : Str → Bool) (g : Str) : ∀ ts : List Tm, flns cm g ts = (prts g ts).map (cmb cm)
  | [] => rfl
  | t :: ts => by
    show fln cm g t ++ flns cm g ts = (prt g t ++ prts g ts).map (cmb cm)
    rw [List.map_append, prt_fln cm g t, prts_flns cm g ts]
end
mutual
theorem prt_dep (g : Str) : ∀ t : Tm, ∀ u ∈ prt g t, u.dep ≤ t.dep ∧ (hd g t = true → u.dep < t.dep) ∧ u.sz ≤ t.sz
  | .var _, u, h => by rw [List.mem_singleton.mp h]; exact ⟨Nat.le_refl _, (nomatch ·), Nat.le_refl _⟩
  | .app f ts, u, h => by
    by_cases e : f = g
    · subst e
      rw [prt_head] at h
      obtain ⟨a, b⟩ := prts_dep f ts u h
      have : (Tm.app f ts).dep = 1 + Tm.deps ts := rfl
      have z : (Tm.app f ts).sz = 1 + Tm.szs ts := rfl
      exact ⟨by omega, fun _ => by omega, by omega⟩
    · rw [prt_other (t := .app f ts) (decide_eq_false e)] at h
      rw [List.mem_singleton.mp h]
      exact ⟨Nat.le_refl _, fun z => absurd (of_decide_eq_true z) e, Nat.le_refl _⟩
theorem prts_dep (g : Str) : ∀ ts : List Tm, ∀ u ∈ prts g ts, u.dep ≤ Tm.deps ts ∧ u.sz ≤ Tm.szs ts
  | [], _, h => nomatch h
  | t :: ts, u, h => by
    rcases List.mem_append.mp (show u ∈ prt g t ++ prts g ts from h) with h | h
    · obtain ⟨a, _, b⟩ := prt_dep g t u h
      show u.dep ≤ max t.dep (Tm.deps ts) ∧ u.sz ≤ t.sz + Tm.szs ts
      omega
    · obtain ⟨a, b⟩ := prts_dep g ts u h
      show u.dep ≤ max t.dep (Tm.deps ts) ∧ u.sz ≤ t.sz + Tm.szs ts
      omega
end
mutual
theorem prt_wf {fs : List Str} {B : Int} (g : Str) : ∀ t : Tm, t.wf fs B → Tm.wfs fs B (prt g t)
  | .var _, w => ⟨w, trivial⟩
  | .app f ts, w => by
    by_cases e : f = g
    · subst e; rw [prt_head]; exact prts_wf f ts w.2
    · rw [prt_other (t := .app f ts) (decide_eq_false e)]; exact ⟨w, trivial⟩
theorem prts_wf {fs : List Str} {B : Int} (g : Str) : ∀ ts : List Tm, Tm.wfs fs B ts → Tm.wfs fs B (prts g ts)
  | [], _ => trivial
  | t :: ts, w => wfs_app (prt_wf g t w.1) (prts_wf g ts w.2)
end
theorem prts_app (g : Str) : ∀ l r : List Tm, prts g (l ++ r) = prts g l ++ prts g r
  | [], _ => rfl
  | t :: l, r => by show prt g t ++ prts g (l ++ r) = (prt g t ++ prts g l) ++ prts g r; rw [prts_app g l r, List.append_assoc]
mutual
theorem prt_len (g : Str) : ∀ t : Tm, (prt g t).length ≤ t.sz
  | .var _ => Nat.le_refl _
  | .app f ts => by
    by_cases e : f = g
    · subst e; rw [prt_head]; have := prts_len f ts; show _ ≤ 1 + Tm.szs ts; omega
    · rw [prt_other (t := .app f ts) (decide_eq_false e)]; exact Tm.sz_pos _
theorem prts_len (g : Str) : ∀ ts : List Tm, (prts g ts).length ≤ Tm.szs ts
  | [] => Nat.le_refl _
  | t :: ts => by
    show (prt g t ++ prts g ts).length ≤ t.sz + Tm.szs ts
    rw [List.length_append]
    have := prt_len g t
    have := prts_len g ts
    omega
end
end J
/-! ### xs[-2::-1] -/
namespace J
open PySem PyProof.Rows L2
theorem pick_back (items : Array Value) (n : items.size ≠ 0) : slicePick items (some (-2)) none (some (-1)) = items.toList.dropLast.reverse.toArray := by
  obtain ⟨k, e⟩ : ∃ k, items.size = k + 1 := ⟨items.size - 1, by omega⟩
  have b : sliceBounds (some (-2)) none (some (-1)) items.size = ((k : Int) - 1, -1, -1) := by
    unfold sliceBounds
    rw [e]
    show (max (-1) (min ((-2 : Int) + ((k + 1 : Nat) : Int)) (((k + 1 : Nat) : Int) - 1)), (-1 : Int), (-1 : Int)) = _
    have : max (-1) (min ((-2 : Int) + ((k + 1 : Nat) : Int)) (((k + 1 : Nat) : Int) - 1)) = (k : Int) - 1 := by omega
    rw [this]
  unfold slicePick
  rw [b]
  show ((sliceRange ((k : Int) - 1) (-1) (-1)).filterMap (items[·]?)).toArray = _
  rw [PySem.W.krv_sliceRange, PySem.W.krv_range, List.filterMap_reverse]
  have h := PySem.pick_run items 0 k
  have e1 : (List.range k).map (0 + ·) = List.range k := by
    rw [show ((0 + ·) : Nat → Nat) = id from funext fun k => Nat.zero_add k, List.map_id]
  rw [e1, List.drop_zero] at h
  rw [h, List.dropLast_eq_take, Array.length_toList, e]; rfl
def tRev2 (K : PySem.W.Frag) (te : TE) : TE := fun σ H Q => te σ H fun x H1 => ∃ a xs, x = .ref a ∧ SqL K H1 a xs ∧ xs ≠ [] ∧ ∀ p, H1 p = none → Q (.ref p) (upd H1 p (.lst xs.dropLast.reverse))
theorem pe_rev2 {X : Cx} {e : Expr} {te : TE} {k k2 : Nat} {p1 p2 p3 q1 q2 pos : Pos} (he : PE X e te) : PE X (.Subscript e (.Slice (some (.UnaryOp .USub (.Constant (.int 2) k2 q1) q2)) none (some (.UnaryOp .USub (.Constant (.int 1) k p1) p2)) p3) pos) (tRev2 X.K te) := by
  refine ⟨fun pins s σ H Q I h => ?_⟩
  refine Subscript_ (thn (he.run pins s σ H _ I h) fun v s1 ⟨x, H1, I1, r1, q1⟩ => ?_)
  obtain ⟨a, xs, ex, hx, hn, q⟩ := q1
  subst ex
  cases r1
  have hlo : PO X (some (.UnaryOp .USub (.Constant (.int 2) k2 q1) q2)) (tPart (tUn (rU fun i => .int (-i)) (tC (.int 2)))) := po_some (pe_un un_neg pe_int)
  have hst : PO X (some (.UnaryOp .USub (.Constant (.int 1) k p1) p2)) (tPart (tUn (rU fun i => .int (-i)) (tC (.int 1)))) := po_some (pe_un un_neg pe_int)
  refine wpAny_Slice (thn (hlo.run pins s1 σ H1 (fun o H2 => o = some (-2) ∧ H2 = H1) I1 ⟨2, rfl, -2, rfl, rfl, rfl⟩) fun vl s2 ⟨l, H2, I2, pl, el, e2⟩ => ?_)
  subst el e2
  refine thn (po_none.run pins s2 σ H2 (fun o H3 => o = none ∧ H3 = H2) I2 ⟨rfl, rfl⟩) fun vu s3 ⟨u, H3, I3, pu, eu, e3⟩ => ?_
  subst eu e3
  refine thn (hst.run pins s3 σ H3 (fun o H4 => o = some (-1) ∧ H4 = H3) I3 ⟨1, rfl, -1, rfl, rfl, rfl⟩) fun vs s4 ⟨o, H4, I4, ps, eo, e4⟩ => ?_
  subst eo e4
  have I5 : Inv X pins σ H4 { s4 with heap := s4.heap.push { cls := .type "slice", data := .fields #[vl, vu, vs] } } := I4.kept (t' := s4.toks) fun b ob q => Heap.get?_push_of_some _ q
  obtain ⟨its, r, ht, hz⟩ := I5.list hx
  have hlen := r.length
  show wpAny (model X.prog X.w) X.A (subscriptTail e (.Slice (some (.UnaryOp .USub (.Constant (.int 2) k2 q1) q2)) none (some (.UnaryOp .USub (.Constant (.int 1) k p1) p2)) p3) (.ref a) (.ref s4.heap.objs.size)) (EP X pins σ Q) X.xe { s4 with heap := s4.heap.push { cls := .type "slice", data := .fields #[vl, vu, vs] } }
  refine tail_any (ops := [.ref a, .ref s4.heap.objs.size]) ht.isList.typeIs (PySem.slot_list_getitem.lookup) ?_ (by with_unfolding_all rfl)
  refine wpAny_getItem_list_slice ht.isList (Heap.IsSliceOf.new _ vl vu vs) pl pu ps (by decide) ?_ (by rw [List.size_toArray]; omega)
  rw [pick_back _ (by rw [List.size_toArray, ← hlen]; exact fun z => hn (List.length_eq_zero_iff.mp z))]
  refine ⟨.ref _, _, I5.laid (t' := s4.toks) (o := .lst xs.dropLast.reverse) (fun b ob q => Heap.get?_push_of_some _ q) (Nat.le_refl _) ?_, rfl, q _ (I5.hok.fresh (Nat.le_refl _))⟩
  have rd : Vals xs.dropLast its.dropLast := by
    rw [List.dropLast_eq_take, List.dropLast_eq_take, ← hlen]; exact r.take _
  exact ⟨by rw [List.length_reverse, List.length_dropLast]; omega, _, 0, rd.reverse, Heap.get?_push_size _ rfl⟩
end J
/-! ### for over what is a list or a tuple -/
namespace J
open PySem PySem.Spec PyProof.Rows L2
def iSeq (K : PySem.W.Frag) (tl : TE) : TI := fun σ H R => tl σ H fun x H1 => ∃ a, x = .ref a ∧ ((∃ xs, SqL K H1 a xs) ∧ R (Itl K a) H1 ∨ (∃ xs, SqT K H1 a xs) ∧ R (Itt K a) H1)
theorem pi_seq {X : Cx} {tg l : Expr} {tl : TE} (hl : PE X l tl) : PI X tg l (iSeq X.K tl) := by
  refine ⟨fun pins s σ H R I h => ?_⟩
  refine thn (hl.run pins s σ H _ I h) fun v s1 ⟨x, H1, I1, r1, q1⟩ => ?_
  obtain ⟨a, e, q⟩ := q1
  subst e
  cases r1
  rcases q with ⟨⟨xs, hq⟩, q⟩ | ⟨⟨xs, hq⟩, q⟩
  · obtain ⟨its, rv, p, hz⟩ := I1.list hq
    refine wpAny_pyIter_list p.isList ?_
    refine ⟨s1.heap.objs.size, [s1.heap.objs.size], _, _, H1, rfl, I1.kept (t' := s1.toks) fun b o e => Heap.get?_push_of_some _ e, turn_list a _, ⟨_, Heap.get?_push_size _ rfl, rfl, rfl⟩, fun b hb => ?_, q⟩
    have e : b = s1.heap.objs.size := by simpa using hb
    subst e
    exact I1.fpOk (Nat.le_refl _) (I1.hok.fresh (Nat.le_refl _))
  · obtain ⟨its, rv, p, hz⟩ := I1.tuple hq
    refine wpAny_pyIter_tuple (show s1.heap.IsTuple a its.toArray from p) ?_
    refine ⟨s1.heap.objs.size, [s1.heap.objs.size], _, _, H1, rfl, I1.kept (t' := s1.toks) fun b o e => Heap.get?_push_of_some _ e, turn_tuple a _, ⟨_, Heap.get?_push_size _ rfl, rfl, rfl⟩, fun b hb => ?_, q⟩
    have e : b = s1.heap.objs.size := by simpa using hb
    subst e
    exact I1.fpOk (Nat.le_refl _) (I1.hok.fresh (Nat.le_refl _))
end J
namespace J
open PySem L2
theorem inV_str2 (n : Str) (l : List Str) : inV (.str n) (l.map V.str) = decide (n ∈ l) := by
  unfold inV
  rw [List.any_map]
  refine Bool.eq_iff_iff.mpr ?_
  rw [List.any_eq_true, decide_eq_true_iff]
  constructor
  · rintro ⟨x, hx, e⟩
    have e : (x == n) = true := e
    rw [← eq_of_beq e]; exact hx
  · intro h
    refine ⟨n, h, ?_⟩
    show (n == n) = true
    exact beq_self_eq_true n
theorem fld_cons {f : Str} {t : Tm} : ∀ {l : List Tm}, l ≠ [] → fld f (t :: l) = .app f [t, fld f l]
  | [], h => absurd rfl h
  | _ :: _, _ => rfl
theorem drop_at {α : Type} {l : List α} {j : Nat} {x : α} (h : l[j]? = some x) : l.drop j = x :: l.drop (j + 1) := by
  obtain ⟨hl, e⟩ := List.getElem?_eq_some_iff.mp h
  rw [List.drop_eq_getElem_cons hl, e]
theorem back_get {α : Type} {l : List α} {i : Nat} {x : α} (h : l.dropLast.reverse[i]? = some x) : i + 1 < l.length ∧ l[l.length - 2 - i]? = some x := by
  have hl := (List.getElem?_eq_some_iff.mp h).1
  rw [List.length_reverse, List.length_dropLast] at hl
  rw [List.getElem?_reverse (by rw [List.length_dropLast]; exact hl), List.length_dropLast, List.dropLast_eq_take, List.getElem?_take_of_lt (by omega)] at h
  exact ⟨by omega, by rw [show l.length - 2 - i = l.length - 1 - 1 - i by omega]; exact h⟩
theorem cmbs_prt (cm : Str → Bool) (f : Str) (ts : List Tm) : cmbs cm (prt f (.app f ts)) = flns cm f ts := by rw [prt_head, cmbs_map, prts_flns]
end J
/-! ### rest.remove(least) of terms -/
namespace J
open PySem PySem.Spec PyProof.Rows L2
mutual
theorem tmD_pl : ∀ t : Tm, (tmD t).plain = true
  | .var _ => rfl
  | .app f ts => by
    show ((PyData.str f).plain && PyData.plainAll (tmDs ts)) = true
    rw [tmDs_pl ts]; rfl
theorem tmDs_pl : ∀ ts : List Tm, PyData.plainAll (tmDs ts) = true
  | [] => rfl
  | t :: ts => by
    show ((tmD t).plain && PyData.plainAll (tmDs ts)) = true
    rw [tmD_pl t, tmDs_pl ts]; rfl
end
mutual
theorem tmD_dl : ∀ t : Tm, (tmD t).depth ≤ t.dep
  | .var _ => Nat.zero_le _
  | .app f ts => by
    show max (PyData.str f).depth (PyData.depthAll (tmDs ts)) + 1 ≤ 1 + Tm.deps ts
    have := tmDs_dl ts
    have : (PyData.str f).depth = 0 := rfl
    omega
theorem tmDs_dl : ∀ ts : List Tm, PyData.depthAll (tmDs ts) ≤ Tm.deps ts
  | [] => Nat.le_refl _
  | t :: ts => by
    have := tmD_dl t
    have := tmDs_dl ts
    show max (tmD t).depth (PyData.depthAll (tmDs ts)) ≤ max t.dep (Tm.deps ts)
    omega
end
theorem tmDs_get : ∀ {us : List Tm} {i : Nat}, (tmDs us)[i]? = us[i]?.map tmD
  | [], _ => rfl
  | _ :: _, 0 => rfl
  | _ :: us, i + 1 => tmDs_get (us := us) (i := i)
theorem tm_place {t : Tm} : ∀ {us : List Tm}, t ∈ us → ∃ j, us[j]? = some t ∧ PySem.SeqAt.dataPlace (tmDs us) (tmD t) = some j
  | u :: us, h => by
    unfold PySem.SeqAt.dataPlace
    show ∃ j, (u :: us)[j]? = some t ∧ (tmD u :: tmDs us).findIdx? (fun y => PyData.eqv y (tmD t)) = some j
    rw [List.findIdx?_cons]
    by_cases e : u = t
    · rw [if_pos ((tmD_eqv u t).mpr e)]
      exact ⟨0, by rw [e]; rfl, rfl⟩
    · rw [if_neg fun z => e ((tmD_eqv u t).mp z)]
      rcases List.mem_cons.mp h with z | z
      · exact absurd z.symm e
      · obtain ⟨j, h1, h2⟩ := tm_place z
        unfold PySem.SeqAt.dataPlace at h2
        exact ⟨j + 1, h1, by rw [h2]; rfl⟩
section
variable {X : Cx}
def rRemT : V → List V → Hp → VK → Prop := fun x vs H Q => ∃ (l : Addr) (xs : List V) (us : List Tm) (v : V) (t : Tm), x = .ref l ∧ vs = [v] ∧ H l = some (.lst xs) ∧ TmsIn H us xs ∧ TmIn H t v ∧ t ∈ us ∧ t.dep ≤ 60 ∧ ∀ j, us[j]? = some t → Q .non (upd H l (.lst (xs.eraseIdx j)))
theorem mt_remT (hu : X.A.units + 64 < cLine) : MtR X "list.remove" rRemT := by
  intro pins s σ H x xs v us Q I rx rxs h
  obtain ⟨l, vs, ts, v0, t, rfl, rfl, hH, hts, ht, mt, dt, q⟩ := h
  cases rx
  obtain ⟨u, rfl, ru⟩ := rxs.one
  obtain ⟨z, its, n, r, hl, e⟩ := I.lstM hH
  obtain ⟨j, gj, hp⟩ := tm_place mt
  have rs := tms_reads I ts vs its hts r
  have r2 := tm_reads I t v0 u ht ru
  have hd := tmD_dl t
  refine PySem.SeqAt.remove_list_data (j := j) (vs := its.toArray) ⟨_, e, rfl, n, rfl⟩ (by rw [List.toList_toArray]; exact rs) r2 (tmDs_pl ts) (tmD_pl t) (by omega) hp (by rw [List.size_toArray, ← hl]; exact z) ?_
  refine ⟨.non, _, I.lset (its' := its.eraseIdx j) (t' := s.toks) hH e ?_ (r.eraseIdx j) ?_, rfl, q j gj⟩
  · show its.toArray.eraseIdxIfInBounds j = (its.eraseIdx j).toArray
    rw [List.eraseIdxIfInBounds_toArray]
  · have := List.length_eraseIdx_le vs j
    omega
end
end J
namespace J
open PySem L2
theorem TmsIn.eraseIdx {H : Hp} : ∀ {us : List Tm} {xs : List V} (j : Nat), TmsIn H us xs → TmsIn H (us.eraseIdx j) (xs.eraseIdx j)
  | [], xs, j, h => by cases (show xs = [] from h); rfl
  | t :: ts, xs, 0, h => by obtain ⟨v, w, rfl, _, h2⟩ := h; exact h2
  | t :: ts, xs, j + 1, h => by obtain ⟨v, w, rfl, h1, h2⟩ := h; exact ⟨v, w.eraseIdx j, rfl, h1, TmsIn.eraseIdx j h2⟩
theorem erase_perm {α : Type} {x : α} : ∀ {l : List α} {j : Nat}, l[j]? = some x → (x :: l.eraseIdx j).Perm l
  | [], _, h => by cases h
  | y :: l, 0, h => by cases h; exact .refl _
  | y :: l, j + 1, h => by
    show (x :: y :: l.eraseIdx j).Perm (y :: l)
    exact (List.Perm.swap ..).trans ((erase_perm (l := l) (j := j) h).cons y)
theorem kle_refl (a : Tm) : kle a a = true := by
  have := kle_total a a
  rwa [Bool.or_self] at this
theorem kle_of_klt {a b : Tm} (h : klt a b = true) : kle a b = true := by
  show (!klt b a) = true
  rw [klt_asym h]; rfl
/-- one more of the least -/
theorem sel_step {l0 os rs : List Tm} {t : Tm} {j : Nat} (g : rs[j]? = some t) (p : (os ++ rs).Perm l0) (s : os.Pairwise fun a b => kle a b = true) (c : ∀ a ∈ os, ∀ b ∈ rs, kle a b = true) (m : ∀ b ∈ rs, kle t b = true) :
    ((os ++ [t]) ++ rs.eraseIdx j).Perm l0 ∧ ((os ++ [t]).Pairwise fun a b => kle a b = true) ∧ (∀ a ∈ os ++ [t], ∀ b ∈ rs.eraseIdx j, kle a b = true) ∧ (rs.eraseIdx j).length < rs.length := by
  have pe := erase_perm g
  have hl := (List.getElem?_eq_some_iff.mp g).1
  refine ⟨?_, ?_, fun a ha b hb => ?_, ?_⟩
  · rw [List.append_assoc]
    exact (List.Perm.append_left os pe).trans p
  · rw [List.pairwise_append]
    exact ⟨s, List.pairwise_singleton _ _, fun a ha b hb => by rw [List.mem_singleton.mp hb]; exact c a ha t (List.mem_of_getElem? g)⟩
  · have hb' := List.mem_of_mem_eraseIdx hb
    rcases List.mem_append.mp ha with h | h
    · exact c a h b hb'
    · rw [List.mem_singleton.mp h]; exact m b hb'
  · rw [List.length_eraseIdx_of_lt hl]; omega
end J
namespace J
open PySem L2
theorem Tm.lu_arg {f : Str} : ∀ {ts : List Tm} {t : Tm}, t ∈ ts → t.lu ≤ (Tm.app f ts).lu := fun {ts t} h => by
  have : ∀ {ts : List Tm}, t ∈ ts → t.lu ≤ Tm.lus ts := fun {ts} h => by
    induction ts with
    | nil => cases h
    | cons u us ih =>
      rcases List.mem_cons.mp h with e | e
      · rw [e]; exact Nat.le_add_right _ _
      · exact Nat.le_trans (ih e) (Nat.le_add_left _ _)
  exact Nat.le_trans (this h) (Nat.le_add_right _ _)
end J
namespace J
open PySem L2
theorem pow3_pos (d : Nat) : 1 ≤ 3 ^ d := Nat.pow_pos (by decide)
mutual
theorem lu_dep {fs : List Str} (h6 : fs.length ≤ 6) {B : Int} : ∀ t : Tm, t.wf fs B → t.lu * 3 ≤ 3 ^ t.dep
  | .var _, _ => Nat.le_refl 3
  | .app f ts, w => by
    have h3 := ar_len h6 w
    have h := lus_dep h6 ts w.2
    show (Tm.lus ts + if ts.length ≤ 1 then 1 else 0) * 3 ≤ 3 ^ (1 + Tm.deps ts)
    rw [Nat.pow_add]
    have p := pow3_pos (Tm.deps ts)
    match ts, h3, h with
    | [], _, h => show (0 + 1) * 3 ≤ 3 ^ 1 * 3 ^ 0; decide
    | [t], _, h =>
      rw [if_pos (show [t].length ≤ 1 from Nat.le_refl _)]
      have h : Tm.lus [t] * 3 ≤ 1 * 3 ^ Tm.deps [t] := h
      have d : 1 ≤ Tm.deps [t] := by have := t.dep_pos; show 1 ≤ max t.dep 0; omega
      have p3 : 3 ^ 1 ≤ 3 ^ Tm.deps [t] := Nat.pow_le_pow_right (by decide) d
      omega
    | [a, b], _, h =>
      rw [if_neg (show ¬ [a, b].length ≤ 1 by show ¬ 2 ≤ 1; decide)]
      have h : Tm.lus [a, b] * 3 ≤ 2 * 3 ^ Tm.deps [a, b] := h
      omega
    | [a, b, c], _, h =>
      rw [if_neg (show ¬ [a, b, c].length ≤ 1 by show ¬ 3 ≤ 1; decide)]
      have h : Tm.lus [a, b, c] * 3 ≤ 3 * 3 ^ Tm.deps [a, b, c] := h
      omega
    | _ :: _ :: _ :: _ :: _, h3, _ => simp at h3
theorem lus_dep {fs : List Str} (h6 : fs.length ≤ 6) {B : Int} : ∀ ts : List Tm, Tm.wfs fs B ts → Tm.lus ts * 3 ≤ ts.length * 3 ^ Tm.deps ts
  | [], _ => Nat.zero_le _
  | t :: ts, w => by
    have a := lu_dep h6 t w.1
    have b := lus_dep h6 ts w.2
    have a2 : 3 ^ t.dep ≤ 3 ^ max t.dep (Tm.deps ts) := Nat.pow_le_pow_right (by decide) (Nat.le_max_left _ _)
    have b2 : 3 ^ Tm.deps ts ≤ 3 ^ max t.dep (Tm.deps ts) := Nat.pow_le_pow_right (by decide) (Nat.le_max_right _ _)
    show (t.lu + Tm.lus ts) * 3 ≤ (ts.length + 1) * 3 ^ max t.dep (Tm.deps ts)
    have c := Nat.mul_le_mul_left ts.length b2
    rw [Nat.add_mul, Nat.add_mul, Nat.one_mul]
    omega
end
end J

/-! ### moves under associative and commutative operations keep the combined form -/
namespace J
open PySem L2
theorem lus_set : ∀ (ts : List Tm) (j : Nat) (x y : Tm), ts[j]? = some y → Tm.lus (ts.set j x) + y.lu = Tm.lus ts + x.lu
  | [], j, x, y, h => by simp at h
  | a :: r, 0, x, y, h => by
    have h : a = y := by simpa using h
    subst h
    show x.lu + Tm.lus r + a.lu = a.lu + Tm.lus r + x.lu
    omega
  | a :: r, j + 1, x, y, h => by
    have := lus_set r j x y (by simpa using h)
    show a.lu + Tm.lus (r.set j x) + y.lu = a.lu + Tm.lus r + x.lu
    omega
theorem rep_lu (u : Tm) : ∀ (q : List Int) (t c : Tm), at? q t = some c → (rep u q t).lu + c.lu = t.lu + u.lu
  | [], t, c, h => by cases (show some t = some c from h); show u.lu + t.lu = t.lu + u.lu; omega
  | k :: q, .var _, _, h => nomatch h
  | k :: q, .app f ts, c, h => by
    rw [at_cons_app] at h
    by_cases h1 : 1 ≤ k
    · rw [if_pos h1] at h
      cases ht : ts[(k - 1).toNat]? with
      | none => rw [ht] at h; cases h
      | some t =>
        rw [ht] at h
        have ih := rep_lu u q t c h
        have e : ts.getD (k - 1).toNat u = t := by rw [List.getD_eq_getElem?_getD, ht]; rfl
        have := lus_set ts (k - 1).toNat (rep u q t) t ht
        show Tm.lus (ts.set (k - 1).toNat (rep u q (ts.getD (k - 1).toNat u))) + (if (ts.set (k - 1).toNat (rep u q (ts.getD (k - 1).toNat u))).length ≤ 1 then 1 else 0) + c.lu = Tm.lus ts + (if ts.length ≤ 1 then 1 else 0) + u.lu
        rw [e, List.length_set]
        omega
    · rw [if_neg h1] at h; cases h
structure Mv (cm : Str → Bool) (fs : List Str) (B : Int) (t u : Tm) : Prop where
  wf : u.wf fs B
  sz : u.sz = t.sz
  lu : u.lu = t.lu
  cmb : J.cmb cm u = J.cmb cm t
  fl : ∀ g, cm g = true → (fln cm g u).Perm (fln cm g t)
theorem Mv.refl {cm : Str → Bool} {fs : List Str} {B : Int} {t : Tm} (w : t.wf fs B) : Mv cm fs B t t := ⟨w, rfl, rfl, rfl, fun _ _ => .refl _⟩
theorem Mv.trans {cm : Str → Bool} {fs : List Str} {B : Int} {t u r : Tm} (a : Mv cm fs B t u) (b : Mv cm fs B u r) : Mv cm fs B t r := ⟨b.wf, b.sz.trans a.sz, b.lu.trans a.lu, b.cmb.trans a.cmb, fun g hg => (b.fl g hg).trans (a.fl g hg)⟩
theorem cmbs_set {cm : Str → Bool} {x y : Tm} (e : cmb cm x = cmb cm y) : ∀ (ts : List Tm) (j : Nat), ts[j]? = some y → cmbs cm (ts.set j x) = cmbs cm ts
  | [], _, h => by cases h
  | a :: r, 0, h => congrArg (· :: cmbs cm r) (e.trans (congrArg (cmb cm) (Option.some.inj (show some a = some y from h)).symm))
  | a :: r, j + 1, h => congrArg (cmb cm a :: ·) (cmbs_set e r j h)
theorem flns_set {cm : Str → Bool} {g : Str} {x y : Tm} (e : (fln cm g x).Perm (fln cm g y)) : ∀ (ts : List Tm) (j : Nat), ts[j]? = some y → (flns cm g (ts.set j x)).Perm (flns cm g ts)
  | [], _, h => by cases h
  | a :: r, 0, h => by cases h; exact e.append_right _
  | a :: r, j + 1, h => (flns_set e r j h).append_left _
theorem srtK_eq {fs : List Str} (nd : fs.Nodup) {B : Int} {l l' : List Tm} (w : Tm.wfs fs B l) (p : l'.Perm l) : srtK l' = srtK l := srtK_only nd w ((srtK_perm l').trans p) (srtK_sorted l')
section
variable {fs : List Str} {B : Int} {cm : Str → Bool} (nd : fs.Nodup) (two : ∀ (k : Nat) (f : Str), fs[k]? = some f → cm f = true → ar k = 2)
include nd two
theorem mv_head {f : Str} {ts us : List Tm} (wt : (Tm.app f ts).wf fs B) (wu : (Tm.app f us).wf fs B) (z : (Tm.app f us).sz = (Tm.app f ts).sz) (l : (Tm.app f us).lu = (Tm.app f ts).lu) (h1 : ∀ g, cm g = true → f = g → (flns cm g us).Perm (flns cm g ts)) (h2 : cm f = false → cmbs cm us = cmbs cm ts) : Mv cm fs B (.app f ts) (.app f us) := by
  have ec : cmb cm (.app f us) = cmb cm (.app f ts) := by
    cases hc : cm f with
    | true =>
      rw [cmb_listed hc, cmb_listed hc, srtK_eq nd (flns_ok two f hc ts wt.2).1 (h1 f hc rfl)]
    | false => rw [cmb_plain hc, cmb_plain hc, h2 hc]
  refine ⟨wu, z, l, ec, fun g hg => ?_⟩
  by_cases e : f = g
  · subst e
    rw [fln_head, fln_head]; exact h1 f hg rfl
  · rw [fln_other (t := .app f us) (decide_eq_false e), fln_other (t := .app f ts) (decide_eq_false e), ec]
theorem mv_app {f : Str} {ts : List Tm} (wt : (Tm.app f ts).wf fs B) {j : Nat} {x y : Tm} (g : ts[j]? = some y) (m : Mv cm fs B y x) : Mv cm fs B (.app f ts) (.app f (ts.set j x)) := by
  obtain ⟨⟨k, h1, h2⟩, w2⟩ := (show (∃ k, fs[k]? = some f ∧ ts.length = ar k) ∧ Tm.wfs fs B ts from wt)
  refine mv_head nd two wt ⟨⟨k, h1, by rw [List.length_set]; exact h2⟩, Tm.wfs_of fun x' hx => ?_⟩ ?_ ?_ (fun g' hg' _ => flns_set (m.fl g' hg') ts j g) fun _ => cmbs_set m.cmb ts j g
  · rcases List.mem_or_eq_of_mem_set hx with h | h
    · exact Tm.wf_of_mem w2 h
    · rw [h]; exact m.wf
  · have := szs_set ts j x y g
    have := m.sz
    show 1 + Tm.szs (ts.set j x) = 1 + Tm.szs ts
    omega
  · have := lus_set ts j x y g
    have := m.lu
    show Tm.lus (ts.set j x) + (if (ts.set j x).length ≤ 1 then 1 else 0) = Tm.lus ts + if ts.length ≤ 1 then 1 else 0
    rw [List.length_set]
    omega
theorem mv_rep {u : Tm} : ∀ (q : List Int) (t c : Tm), t.wf fs B → at? q t = some c → Mv cm fs B c u → Mv cm fs B t (rep u q t)
  | [], t, c, _, h, m => by cases (show some t = some c from h); exact m
  | k :: q, .var _, _, _, h, _ => nomatch h
  | k :: q, .app f ts, c, w, h, m => by
    rw [at_cons_app] at h
    by_cases h1 : 1 ≤ k
    · rw [if_pos h1] at h
      cases ht : ts[(k - 1).toNat]? with
      | none => rw [ht] at h; cases h
      | some t =>
        rw [ht] at h
        have e : ts.getD (k - 1).toNat u = t := by rw [List.getD_eq_getElem?_getD, ht]; rfl
        have ih := mv_rep q t c (Tm.wf_of_mem w.2 (List.mem_of_getElem? ht)) h m
        have := mv_app nd two w ht ih
        show Mv cm fs B (.app f ts) (.app f (ts.set (k - 1).toNat (rep u q (ts.getD (k - 1).toNat u))))
        rw [e]; exact this
    · rw [if_neg h1] at h; cases h
theorem mv_swap {f : Str} {a b : Tm} (hc : cm f = true) (w : (Tm.app f [a, b]).wf fs B) : Mv cm fs B (.app f [a, b]) (.app f [b, a]) := by
  refine mv_head nd two w ⟨w.1, w.2.2.1, w.2.1, trivial⟩ ?_ ?_ (fun g hg _ => ?_) fun h => absurd (hc.symm.trans h) (by decide)
  · show 1 + (b.sz + (a.sz + 0)) = 1 + (a.sz + (b.sz + 0)); omega
  · show (b.lu + (a.lu + 0)) + 0 = (a.lu + (b.lu + 0)) + 0; omega
  · show (fln cm g b ++ (fln cm g a ++ [])).Perm (fln cm g a ++ (fln cm g b ++ []))
    rw [List.append_nil, List.append_nil]
    exact List.perm_append_comm
theorem mv_right {f : Str} {a b c : Tm} (hc : cm f = true) (w : (Tm.app f [.app f [a, b], c]).wf fs B) : Mv cm fs B (.app f [.app f [a, b], c]) (.app f [a, .app f [b, c]]) := by
  refine mv_head nd two w ⟨w.1, w.2.1.2.1, ⟨w.1, w.2.1.2.2.1, w.2.2.1, trivial⟩, trivial⟩ ?_ ?_ (fun g hg e => ?_) fun h => absurd (hc.symm.trans h) (by decide)
  · show 1 + (a.sz + ((1 + (b.sz + (c.sz + 0))) + 0)) = 1 + ((1 + (a.sz + (b.sz + 0))) + (c.sz + 0)); omega
  · show (a.lu + (((b.lu + (c.lu + 0)) + 0) + 0)) + 0 = (((a.lu + (b.lu + 0)) + 0) + (c.lu + 0)) + 0; omega
  · subst e
    show (fln cm f a ++ (fln cm f (.app f [b, c]) ++ [])).Perm (fln cm f (.app f [a, b]) ++ (fln cm f c ++ []))
    rw [fln_head, fln_head]
    show (fln cm f a ++ ((fln cm f b ++ (fln cm f c ++ [])) ++ [])).Perm ((fln cm f a ++ (fln cm f b ++ [])) ++ (fln cm f c ++ []))
    simp only [List.append_nil, List.append_assoc]
    exact .refl _
theorem mv_left {f : Str} {a b c : Tm} (hc : cm f = true) (w : (Tm.app f [a, .app f [b, c]]).wf fs B) : Mv cm fs B (.app f [a, .app f [b, c]]) (.app f [.app f [a, b], c]) := by
  refine mv_head nd two w ⟨w.1, ⟨w.1, w.2.1, w.2.2.1.2.1, trivial⟩, w.2.2.1.2.2.1, trivial⟩ ?_ ?_ (fun g hg e => ?_) fun h => absurd (hc.symm.trans h) (by decide)
  · show 1 + ((1 + (a.sz + (b.sz + 0))) + (c.sz + 0)) = 1 + (a.sz + ((1 + (b.sz + (c.sz + 0))) + 0)); omega
  · show (((a.lu + (b.lu + 0)) + 0) + (c.lu + 0)) + 0 = (a.lu + (((b.lu + (c.lu + 0)) + 0) + 0)) + 0; omega
  · subst e
    show (fln cm f (.app f [a, b]) ++ (fln cm f c ++ [])).Perm (fln cm f a ++ (fln cm f (.app f [b, c]) ++ []))
    rw [fln_head, fln_head]
    show ((fln cm f a ++ (fln cm f b ++ [])) ++ (fln cm f c ++ [])).Perm (fln cm f a ++ ((fln cm f b ++ (fln cm f c ++ [])) ++ []))
    simp only [List.append_nil, List.append_assoc]
    exact .refl _
end
end J

namespace Lw
open PySem L2 PyProof.Rows J
local macro_rules | `(tactic| walk_at "hp") => `(tactic| first | assumption | exact upd_same)
local macro_rules | `(tactic| walk_at "side") => `(tactic| first
  | (show (0 : Int) < _; decide)
  | exact Or.inr ⟨by decide, by decide⟩
  | exact Or.inl ⟨by decide, by decide⟩
  | exact ⟨by decide, by decide⟩
  | exact ⟨by decide, by decide, by decide⟩
  | (show (_ : Int) ≠ 0; omega)
  | (show _ < _; omega)
  | exact ⟨by omega, by omega⟩
  | exact Or.inl ⟨by omega, by omega⟩
  | exact Or.inr ⟨by omega, by omega⟩)
local macro_rules | `(tactic| walk_at "rd1") => `(tactic| first
  | refine ⟨_, rfl, ?_⟩
  | refine ⟨_, _, rfl, rfl, by walk_at "side", ?_⟩
  | refine ⟨_, _, rfl, rfl, ?_⟩
  | refine .inl ⟨_, rfl, ?_⟩
  | refine ⟨_, _, _, _, rfl, rfl, SqL.of (by walk_at "hp"), by first | assumption | exact at_zero | rfl, ?_⟩
  | refine ⟨_, _, _, _, rfl, rfl, SqT.of (by walk_at "hp"), by first | assumption | exact at_zero | rfl, ?_⟩
  | refine ⟨_, _, rfl, .inl (SqL.of (by walk_at "hp")), ?_⟩
  | refine ⟨_, _, rfl, .inr (SqT.of (by walk_at "hp")), ?_⟩
  | refine ⟨_, _, _, _, rfl, rfl, by walk_at "hp", rfl, ?_⟩
  | refine ⟨rfl, ?_⟩)
local macro_rules | `(tactic| walk_at "rd") => `(tactic| repeat walk_at "rd1")
local macro_rules | `(tactic| walk_at "isi") => `(tactic| first
  | refine ⟨_, _, _, _, true, rfl, .ty _, .base (.int _), kit_ty (by decide +kernel), ?_⟩
  | refine ⟨_, _, _, _, false, rfl, .ty _, .base (.int _), kit_ty (by decide +kernel), ?_⟩
  | refine ⟨_, _, _, _, true, rfl, .ty _, .base (.tup (by walk_at "hp")), kit_ty (by decide +kernel), ?_⟩
  | refine ⟨_, _, _, _, false, rfl, .ty _, .base (.tup (by walk_at "hp")), kit_ty (by decide +kernel), ?_⟩
  | refine ⟨_, _, _, _, true, rfl, .ty _, .base (.lst (by walk_at "hp")), kit_ty (by decide +kernel), ?_⟩
  | refine ⟨_, _, _, _, false, rfl, .ty _, .base (.lst (by walk_at "hp")), kit_ty (by decide +kernel), ?_⟩
  | refine ⟨_, _, _, _, true, rfl, .ty _, .base (.dK (by walk_at "hp")), kit_ty (by decide +kernel), ?_⟩
  | refine ⟨_, _, _, _, false, rfl, .ty _, .base (.dK (by walk_at "hp")), kit_ty (by decide +kernel), ?_⟩
  | refine ⟨_, _, _, _, true, rfl, .ty _, .base (.str _), kit_ty (by decide +kernel), ?_⟩
  | refine ⟨_, _, _, _, false, rfl, .ty _, .base (.str _), kit_ty (by decide +kernel), ?_⟩
  | refine ⟨_, _, _, _, true, rfl, .ty _, .base (.bl _), kit_ty (by decide +kernel), ?_⟩
  | refine ⟨_, _, _, _, false, rfl, .ty _, .base (.bl _), kit_ty (by decide +kernel), ?_⟩
  | refine ⟨_, _, _, _, true, rfl, .ty _, .base (.non), kit_ty (by decide +kernel), ?_⟩
  | refine ⟨_, _, _, _, false, rfl, .ty _, .base (.non), kit_ty (by decide +kernel), ?_⟩)
local macro_rules | `(tactic| walk_at "sl1") => `(tactic| (refine ⟨_, _, rfl, SqT.of (by walk_at "hp"), sl1c _ _, ?_⟩; rw [cut1]))
local macro_rules | `(tactic| walk_at "ri") => `(tactic| repeat (first | walk_at "rd1" | walk_at "isi"))

def topS (i : Nat) : Stmt := PySem.Challenge.pw_joinedends_k31_whole_combined_alike.main.body.getD i (.Pass ⟨0, 0, 0, 0⟩)
abbrev s_u_law_state : Stmt := topS 22
theorem sc_u_law_state : FnScope ["script"] ["script"] (defScope s_u_law_state) := ⟨rfl, rfl, rfl, by decide +kernel, rfl, by decide +kernel, by decide +kernel⟩
abbrev s_u_law_mix : Stmt := topS 20
theorem sc_u_law_mix : FnScope ["cell", "number"] ["cell"] (defScope s_u_law_mix) := ⟨rfl, rfl, rfl, by decide +kernel, rfl, by decide +kernel, by decide +kernel⟩
abbrev s_u_law_number : Stmt := topS 21
theorem sc_u_law_number : FnScope ["cell", "first"] ["cell"] (defScope s_u_law_number) := ⟨rfl, rfl, rfl, by decide +kernel, rfl, by decide +kernel, by decide +kernel⟩
abbrev s_u_law_draw : Stmt := topS 23
theorem sc_u_law_draw : FnScope ["state", "many", "value"] ["state", "many"] (defScope s_u_law_draw) := ⟨rfl, rfl, rfl, by decide +kernel, rfl, by decide +kernel, by decide +kernel⟩
abbrev s_u_law_word : Stmt := topS 24
theorem sc_u_law_word : FnScope ["state", "size", "letters", "k"] ["state", "size"] (defScope s_u_law_word) := ⟨rfl, rfl, rfl, by decide +kernel, rfl, by decide +kernel, by decide +kernel⟩
abbrev s_u_law_names : Stmt := topS 25
theorem sc_u_law_names : FnScope ["state", "count", "letters", "before", "behind", "first", "k"] ["state", "count"] (defScope s_u_law_names) := ⟨rfl, rfl, rfl, by decide +kernel, rfl, by decide +kernel, by decide +kernel⟩
abbrev s_u_law_two : Stmt := topS 35
theorem sc_u_law_two : FnScope ["state", "names", "arities", "k"] ["state"] (defScope s_u_law_two) := ⟨rfl, rfl, rfl, by decide +kernel, rfl, by decide +kernel, by decide +kernel⟩
abbrev s_u_law_leaf : Stmt := topS 26
theorem sc_u_law_leaf : FnScope ["state", "operations", "count"] ["state", "operations", "count"] (defScope s_u_law_leaf) := ⟨rfl, rfl, rfl, by decide +kernel, rfl, by decide +kernel, by decide +kernel⟩
abbrev s_u_law_term : Stmt := topS 27
theorem sc_u_law_term : FnScope ["state", "operations", "count", "height", "name", "arity", "term", "k"] ["state", "operations", "count", "height"] (defScope s_u_law_term) := ⟨rfl, rfl, rfl, by decide +kernel, rfl, by decide +kernel, by decide +kernel⟩
abbrev s_u_law_same : Stmt := topS 31
theorem sc_u_law_same : FnScope ["first", "second", "k"] ["first", "second"] (defScope s_u_law_same) := ⟨rfl, rfl, rfl, by decide +kernel, rfl, by decide +kernel, by decide +kernel⟩
abbrev s_u_law_tells : Stmt := topS 19
theorem sc_u_law_tells : FnScope ["actual", "due"] ["actual", "due"] (defScope s_u_law_tells) := ⟨rfl, rfl, rfl, by decide +kernel, rfl, by decide +kernel, by decide +kernel⟩
abbrev s_u_law_positions : Stmt := topS 30
theorem sc_u_law_positions : FnScope ["term", "found", "k", "inner"] ["term"] (defScope s_u_law_positions) := ⟨rfl, rfl, rfl, by decide +kernel, rfl, by decide +kernel, by decide +kernel⟩
abbrev s_u_law_subterm : Stmt := topS 28
theorem sc_u_law_subterm : FnScope ["term", "position", "k"] ["term", "position"] (defScope s_u_law_subterm) := ⟨rfl, rfl, rfl, by decide +kernel, rfl, by decide +kernel, by decide +kernel⟩
abbrev s_u_law_replace : Stmt := topS 29
theorem sc_u_law_replace : FnScope ["term", "position", "new", "k"] ["term", "position", "new"] (defScope s_u_law_replace) := ⟨rfl, rfl, rfl, by decide +kernel, rfl, by decide +kernel, by decide +kernel⟩
abbrev s_u_law_moved : Stmt := topS 38
theorem sc_u_law_moved : FnScope ["state", "names", "term", "places", "position", "found", "kind", "left", "right"] ["state", "names", "term"] (defScope s_u_law_moved) := ⟨rfl, rfl, rfl, by decide +kernel, rfl, by decide +kernel, by decide +kernel⟩
abbrev s_u_flat_arguments : Stmt := topS 17
theorem sc_u_flat_arguments : FnScope ["name", "term", "found", "waiting", "part"] ["name", "term"] (defScope s_u_flat_arguments) := ⟨rfl, rfl, rfl, by decide +kernel, rfl, by decide +kernel, by decide +kernel⟩
abbrev s_symbols : Stmt := topS 11
theorem sc_symbols : FnScope ["term", "found", "waiting", "part"] ["term"] (defScope s_symbols) := ⟨rfl, rfl, rfl, by decide +kernel, rfl, by decide +kernel, by decide +kernel⟩
abbrev s_order_key : Stmt := topS 12
theorem sc_order_key : FnScope ["term", "row", "symbol"] ["term"] (defScope s_order_key) := ⟨rfl, rfl, rfl, by decide +kernel, rfl, by decide +kernel, by decide +kernel⟩
abbrev s_u_combined : Stmt := topS 16
theorem sc_u_combined : FnScope ["operations", "term", "is_listed", "parts", "argument", "result", "part"] ["operations", "term"] (defScope s_u_combined) := ⟨rfl, rfl, rfl, by decide +kernel, rfl, by decide +kernel, by decide +kernel⟩
abbrev s_profile : Stmt := topS 4
theorem sc_profile : FnScope ["term", "total", "level", "spots", "row", "below", "part", "count", "_"] ["term"] (defScope s_profile) := ⟨rfl, rfl, rfl, by decide +kernel, rfl, by decide +kernel, by decide +kernel⟩
abbrev s_measure : Stmt := topS 5
theorem sc_measure : FnScope ["term", "total", "deepest", "_"] ["term"] (defScope s_measure) := ⟨rfl, rfl, rfl, by decide +kernel, rfl, by decide +kernel, by decide +kernel⟩
abbrev s_is_within : Stmt := topS 9
theorem sc_is_within : FnScope ["total", "deepest"] ["total", "deepest"] (defScope s_is_within) := ⟨rfl, rfl, rfl, by decide +kernel, rfl, by decide +kernel, by decide +kernel⟩
abbrev s_check_size : Stmt := topS 10
theorem sc_check_size : FnScope ["term", "total", "deepest"] ["term"] (defScope s_check_size) := ⟨rfl, rfl, rfl, by decide +kernel, rfl, by decide +kernel, by decide +kernel⟩
abbrev s_combined_form : Stmt := topS 14
theorem sc_combined_form : FnScope ["operations", "term", "result"] ["operations", "term"] (defScope s_combined_form) := ⟨rfl, rfl, rfl, by decide +kernel, rfl, by decide +kernel, by decide +kernel⟩
abbrev s_are_combined_alike : Stmt := topS 15
theorem sc_are_combined_alike : FnScope ["operations", "first", "second"] ["operations", "first", "second"] (defScope s_are_combined_alike) := ⟨rfl, rfl, rfl, by decide +kernel, rfl, by decide +kernel, by decide +kernel⟩
abbrev s_u_law_spoilt : Stmt := topS 34
theorem sc_u_law_spoilt : FnScope ["state", "operations", "count", "term", "places", "position"] ["state", "operations", "count", "term"] (defScope s_u_law_spoilt) := ⟨rfl, rfl, rfl, by decide +kernel, rfl, by decide +kernel, by decide +kernel⟩
abbrev s_u_law_flat : Stmt := topS 36
theorem sc_u_law_flat : FnScope ["names", "name", "term"] ["names", "name", "term"] (defScope s_u_law_flat) := ⟨rfl, rfl, rfl, by decide +kernel, rfl, by decide +kernel, by decide +kernel⟩
abbrev s_u_law_symbols : Stmt := topS 32
theorem sc_u_law_symbols : FnScope ["term", "found", "argument"] ["term"] (defScope s_u_law_symbols) := ⟨rfl, rfl, rfl, by decide +kernel, rfl, by decide +kernel, by decide +kernel⟩
abbrev s_u_law_compare : Stmt := topS 33
theorem sc_u_law_compare : FnScope ["first", "second", "one", "other", "k"] ["first", "second"] (defScope s_u_law_compare) := ⟨rfl, rfl, rfl, by decide +kernel, rfl, by decide +kernel, by decide +kernel⟩
abbrev s_u_law_combined : Stmt := topS 37
theorem sc_u_law_combined : FnScope ["names", "term", "result", "argument", "rest", "ordered", "least", "candidate", "k"] ["names", "term"] (defScope s_u_law_combined) := ⟨rfl, rfl, rfl, by decide +kernel, rfl, by decide +kernel, by decide +kernel⟩
abbrev s_law : Stmt := topS 39
theorem sc_law : FnScope ["script", "state", "operations", "both", "names", "first", "second", "k", "expected"] ["script"] (defScope s_law) := ⟨rfl, rfl, rfl, by decide +kernel, rfl, by decide +kernel, by decide +kernel⟩
structure Ad where
  a_u_law_state : Addr
  d_u_law_state : FuncData
  a_u_law_mix : Addr
  d_u_law_mix : FuncData
  a_u_law_number : Addr
  d_u_law_number : FuncData
  a_u_law_draw : Addr
  d_u_law_draw : FuncData
  a_u_law_word : Addr
  d_u_law_word : FuncData
  a_u_law_names : Addr
  d_u_law_names : FuncData
  a_u_law_two : Addr
  d_u_law_two : FuncData
  a_u_law_leaf : Addr
  d_u_law_leaf : FuncData
  a_u_law_term : Addr
  d_u_law_term : FuncData
  a_u_law_same : Addr
  d_u_law_same : FuncData
  a_u_law_tells : Addr
  d_u_law_tells : FuncData
  a_u_law_positions : Addr
  d_u_law_positions : FuncData
  a_u_law_subterm : Addr
  d_u_law_subterm : FuncData
  a_u_law_replace : Addr
  d_u_law_replace : FuncData
  a_u_law_moved : Addr
  d_u_law_moved : FuncData
  a_u_flat_arguments : Addr
  d_u_flat_arguments : FuncData
  a_symbols : Addr
  d_symbols : FuncData
  a_order_key : Addr
  d_order_key : FuncData
  a_u_combined : Addr
  d_u_combined : FuncData
  a_profile : Addr
  d_profile : FuncData
  a_measure : Addr
  d_measure : FuncData
  a_is_within : Addr
  d_is_within : FuncData
  a_check_size : Addr
  d_check_size : FuncData
  a_combined_form : Addr
  d_combined_form : FuncData
  a_are_combined_alike : Addr
  d_are_combined_alike : FuncData
  a_u_law_spoilt : Addr
  d_u_law_spoilt : FuncData
  a_u_law_flat : Addr
  d_u_law_flat : FuncData
  a_u_law_symbols : Addr
  d_u_law_symbols : FuncData
  a_u_law_compare : Addr
  d_u_law_compare : FuncData
  a_u_law_combined : Addr
  d_u_law_combined : FuncData
  a_law : Addr
  d_law : FuncData
  c_TooLarge : Addr
structure Tx (K : PySem.W.Frag) (mg : Str → Option Value) (A : Ad) : Prop where
  F_u_law_state : Fun K "_law_state" "_law_state" s_u_law_state A.a_u_law_state A.d_u_law_state
  b_u_law_state : Binds K A.d_u_law_state ["script"] []
  m_u_law_state : mg "_law_state" = some (.ref A.a_u_law_state)
  F_u_law_mix : Fun K "_law_mix" "_law_mix" s_u_law_mix A.a_u_law_mix A.d_u_law_mix
  b_u_law_mix : Binds K A.d_u_law_mix ["cell"] []
  m_u_law_mix : mg "_law_mix" = some (.ref A.a_u_law_mix)
  F_u_law_number : Fun K "_law_number" "_law_number" s_u_law_number A.a_u_law_number A.d_u_law_number
  b_u_law_number : Binds K A.d_u_law_number ["cell"] []
  m_u_law_number : mg "_law_number" = some (.ref A.a_u_law_number)
  F_u_law_draw : Fun K "_law_draw" "_law_draw" s_u_law_draw A.a_u_law_draw A.d_u_law_draw
  b_u_law_draw : Binds K A.d_u_law_draw ["state", "many"] []
  m_u_law_draw : mg "_law_draw" = some (.ref A.a_u_law_draw)
  F_u_law_word : Fun K "_law_word" "_law_word" s_u_law_word A.a_u_law_word A.d_u_law_word
  b_u_law_word : Binds K A.d_u_law_word ["state", "size"] []
  m_u_law_word : mg "_law_word" = some (.ref A.a_u_law_word)
  F_u_law_names : Fun K "_law_names" "_law_names" s_u_law_names A.a_u_law_names A.d_u_law_names
  b_u_law_names : Binds K A.d_u_law_names ["state", "count"] []
  m_u_law_names : mg "_law_names" = some (.ref A.a_u_law_names)
  F_u_law_two : Fun K "_law_two" "_law_two" s_u_law_two A.a_u_law_two A.d_u_law_two
  b_u_law_two : Binds K A.d_u_law_two ["state"] []
  m_u_law_two : mg "_law_two" = some (.ref A.a_u_law_two)
  F_u_law_leaf : Fun K "_law_leaf" "_law_leaf" s_u_law_leaf A.a_u_law_leaf A.d_u_law_leaf
  b_u_law_leaf : Binds K A.d_u_law_leaf ["state", "operations", "count"] []
  m_u_law_leaf : mg "_law_leaf" = some (.ref A.a_u_law_leaf)
  F_u_law_term : Fun K "_law_term" "_law_term" s_u_law_term A.a_u_law_term A.d_u_law_term
  b_u_law_term : Binds K A.d_u_law_term ["state", "operations", "count", "height"] []
  m_u_law_term : mg "_law_term" = some (.ref A.a_u_law_term)
  F_u_law_same : Fun K "_law_same" "_law_same" s_u_law_same A.a_u_law_same A.d_u_law_same
  b_u_law_same : Binds K A.d_u_law_same ["first", "second"] []
  m_u_law_same : mg "_law_same" = some (.ref A.a_u_law_same)
  F_u_law_tells : Fun K "_law_tells" "_law_tells" s_u_law_tells A.a_u_law_tells A.d_u_law_tells
  b_u_law_tells : Binds K A.d_u_law_tells ["actual", "due"] []
  m_u_law_tells : mg "_law_tells" = some (.ref A.a_u_law_tells)
  F_u_law_positions : Fun K "_law_positions" "_law_positions" s_u_law_positions A.a_u_law_positions A.d_u_law_positions
  b_u_law_positions : Binds K A.d_u_law_positions ["term"] []
  m_u_law_positions : mg "_law_positions" = some (.ref A.a_u_law_positions)
  F_u_law_subterm : Fun K "_law_subterm" "_law_subterm" s_u_law_subterm A.a_u_law_subterm A.d_u_law_subterm
  b_u_law_subterm : Binds K A.d_u_law_subterm ["term", "position"] []
  m_u_law_subterm : mg "_law_subterm" = some (.ref A.a_u_law_subterm)
  F_u_law_replace : Fun K "_law_replace" "_law_replace" s_u_law_replace A.a_u_law_replace A.d_u_law_replace
  b_u_law_replace : Binds K A.d_u_law_replace ["term", "position", "new"] []
  m_u_law_replace : mg "_law_replace" = some (.ref A.a_u_law_replace)
  F_u_law_moved : Fun K "_law_moved" "_law_moved" s_u_law_moved A.a_u_law_moved A.d_u_law_moved
  b_u_law_moved : Binds K A.d_u_law_moved ["state", "names", "term"] []
  m_u_law_moved : mg "_law_moved" = some (.ref A.a_u_law_moved)
  F_u_flat_arguments : Fun K "_flat_arguments" "_flat_arguments" s_u_flat_arguments A.a_u_flat_arguments A.d_u_flat_arguments
  b_u_flat_arguments : Binds K A.d_u_flat_arguments ["name", "term"] []
  m_u_flat_arguments : mg "_flat_arguments" = some (.ref A.a_u_flat_arguments)
  F_symbols : Fun K "symbols" "symbols" s_symbols A.a_symbols A.d_symbols
  b_symbols : Binds K A.d_symbols ["term"] []
  m_symbols : mg "symbols" = some (.ref A.a_symbols)
  F_order_key : Fun K "order_key" "order_key" s_order_key A.a_order_key A.d_order_key
  b_order_key : Binds K A.d_order_key ["term"] []
  m_order_key : mg "order_key" = some (.ref A.a_order_key)
  F_u_combined : Fun K "_combined" "_combined" s_u_combined A.a_u_combined A.d_u_combined
  b_u_combined : Binds K A.d_u_combined ["operations", "term"] []
  m_u_combined : mg "_combined" = some (.ref A.a_u_combined)
  F_profile : Fun K "profile" "profile" s_profile A.a_profile A.d_profile
  b_profile : Binds K A.d_profile ["term"] []
  m_profile : mg "profile" = some (.ref A.a_profile)
  F_measure : Fun K "measure" "measure" s_measure A.a_measure A.d_measure
  b_measure : Binds K A.d_measure ["term"] []
  m_measure : mg "measure" = some (.ref A.a_measure)
  F_is_within : Fun K "is_within" "is_within" s_is_within A.a_is_within A.d_is_within
  b_is_within : Binds K A.d_is_within ["total", "deepest"] []
  m_is_within : mg "is_within" = some (.ref A.a_is_within)
  F_check_size : Fun K "check_size" "check_size" s_check_size A.a_check_size A.d_check_size
  b_check_size : Binds K A.d_check_size ["term"] []
  m_check_size : mg "check_size" = some (.ref A.a_check_size)
  F_combined_form : Fun K "combined_form" "combined_form" s_combined_form A.a_combined_form A.d_combined_form
  b_combined_form : Binds K A.d_combined_form ["operations", "term"] []
  m_combined_form : mg "combined_form" = some (.ref A.a_combined_form)
  F_are_combined_alike : Fun K "are_combined_alike" "are_combined_alike" s_are_combined_alike A.a_are_combined_alike A.d_are_combined_alike
  b_are_combined_alike : Binds K A.d_are_combined_alike ["operations", "first", "second"] []
  m_are_combined_alike : mg "are_combined_alike" = some (.ref A.a_are_combined_alike)
  F_u_law_spoilt : Fun K "_law_spoilt" "_law_spoilt" s_u_law_spoilt A.a_u_law_spoilt A.d_u_law_spoilt
  b_u_law_spoilt : Binds K A.d_u_law_spoilt ["state", "operations", "count", "term"] []
  m_u_law_spoilt : mg "_law_spoilt" = some (.ref A.a_u_law_spoilt)
  F_u_law_flat : Fun K "_law_flat" "_law_flat" s_u_law_flat A.a_u_law_flat A.d_u_law_flat
  b_u_law_flat : Binds K A.d_u_law_flat ["names", "name", "term"] []
  m_u_law_flat : mg "_law_flat" = some (.ref A.a_u_law_flat)
  F_u_law_symbols : Fun K "_law_symbols" "_law_symbols" s_u_law_symbols A.a_u_law_symbols A.d_u_law_symbols
  b_u_law_symbols : Binds K A.d_u_law_symbols ["term"] []
  m_u_law_symbols : mg "_law_symbols" = some (.ref A.a_u_law_symbols)
  F_u_law_compare : Fun K "_law_compare" "_law_compare" s_u_law_compare A.a_u_law_compare A.d_u_law_compare
  b_u_law_compare : Binds K A.d_u_law_compare ["first", "second"] []
  m_u_law_compare : mg "_law_compare" = some (.ref A.a_u_law_compare)
  F_u_law_combined : Fun K "_law_combined" "_law_combined" s_u_law_combined A.a_u_law_combined A.d_u_law_combined
  b_u_law_combined : Binds K A.d_u_law_combined ["names", "term"] []
  m_u_law_combined : mg "_law_combined" = some (.ref A.a_u_law_combined)
  F_law : Fun K "law" "law" s_law A.a_law A.d_law
  b_law : Binds K A.d_law ["script"] []
  m_law : mg "law" = some (.ref A.a_law)
  n_bool : mg "bool" = none
  n_int : mg "int" = none
  n_isinstance : mg "isinstance" = none
  n_len : mg "len" = none
  n_list : mg "list" = none
  n_range : mg "range" = none
  n_sorted : mg "sorted" = none
  n_str : mg "str" = none
  n_tuple : mg "tuple" = none
  c_MAX_SIZE : ∃ t, mg "MAX_SIZE" = some (.int 400 t)
  c_MAX_DEPTH : ∃ t, mg "MAX_DEPTH" = some (.int 30 t)
  E_TooLarge : ErrC K mg "TooLarge" A.c_TooLarge
section
variable {P : Program} {w : World} {K : PySem.W.Frag} {mg : Str → Option Value} {base : Heap} {A : Ad}
/-! _law_state -/
def sp_u_law_state (K : PySem.W.Frag) : Sp := fun vs H Q _ => ∃ (a : Addr) (ns : List Int), vs = [.ref a] ∧ SqL K H a (ns.map V.int) ∧ ns.length ≤ 63 ∧ ∀ s l H', Same H H' → H s = none → H l = none → St H' s l → Q (.ref s) H'
theorem ok_u_law_state (T : Tx K mg A) : FnOk P w K mg base CX0 1 A.a_u_law_state A.d_u_law_state ["script"] (sp_u_law_state K) := by
  refine T.F_u_law_state.ok sc_u_law_state (fun vs H Q E h => ?_) (fun cdv Ar outer s0 H vs Q E hr h => ?_)
  · obtain ⟨a, ns, rfl, _⟩ := h; rfl
  obtain ⟨a, ns, rfl, hS, h63, q⟩ := h
  refine ⟨_, (pss_one (ps_ret (pe_lst (pa_cons pe_int (pa_cons (pe_callTy (r := rListS K) j_list (by rfl) T.n_list boot_list (pa_cons (pv 0) pa_nil)) (pa_cons pe_int (pa_cons (pe_op op_add pe_int (pe_callB (r := rLenS K) j_len (by rfl) T.n_len PySem.boot_len (pa_cons (pv 0) pa_nil))) pa_nil))))))), ?_⟩
  walk_at "rd"
  refine ⟨a, _, rfl, .inl hS, ?_⟩
  first | intro l n1 | refine fun l n1 => ?_
  generalize ehn : upd H l _ = H1
  have s1 := J.al_same n1 ehn
  have h1 := J.al_at ehn
  clear ehn
  walk_at "rd"
  refine ⟨a, _, rfl, .inl (s1.seq hS), ?_⟩
  walk_at "rd"
  refine ⟨by show 4 ≤ sizeLine; decide, ?_⟩
  first | intro s n2 | refine fun s n2 => ?_
  generalize ehn : upd H1 s _ = H2
  have s2 := J.al_same n2 ehn
  have h2 := J.al_at ehn
  clear ehn
  refine q s l H2 (s1.trans s2) (s1.free n2) n1 ⟨0, 0, _, ns, h2, s2 _ _ h1, Int.le_refl _, Int.natCast_nonneg _, Int.le_refl _, ?_, ?_, h63⟩
  · rw [List.length_map]; omega
  · rw [List.length_map]; omega

/-! _law_mix -/
def sp_u_law_mix : Sp := fun vs H Q _ => ∃ c : Int, vs = [.int c] ∧ ∀ r : Int, 0 ≤ r → r < 2147483647 → Q (.int r) H
theorem ok_u_law_mix (T : Tx K mg A) : FnOk P w K mg base CX0 (1) A.a_u_law_mix A.d_u_law_mix ["cell"] sp_u_law_mix := by
  refine T.F_u_law_mix.ok sc_u_law_mix (fun vs H Q E h => ?_) (fun cdv Ar outer s0 H vs Q E hr h => ?_)
  · obtain ⟨c, rfl, _⟩ := h; rfl
  obtain ⟨c, rfl, q⟩ := h
  refine ⟨_, (pss_cons (ps_set (i := 1) sc_u_law_mix.nd rfl (Or.inl rfl) (pe_op op_mod (pe_callTy call_int1 (by rfl) T.n_int boot_int (pa_cons (pv 0) pa_nil)) pe_int))
    (pss_cons (ps_set (i := 1) sc_u_law_mix.nd rfl (Or.inl rfl) (pe_op op_mod (pe_callTy call_int1 (by rfl) T.n_int boot_int (pa_cons (pe_op op_add (pe_op op_mul (pv 1) pe_int) pe_int) pa_nil)) pe_int))
    (pss_one (ps_ret (pe_op op_mod (pe_callTy call_int1 (by rfl) T.n_int boot_int (pa_cons (pe_op op_add (pe_op op_mul (pv 1) pe_int) pe_int) pa_nil)) pe_int))))), ?_⟩
  walk_at "rd"
  refine q _ (Int.emod_nonneg _ (by decide)) ?_
  show _ % _ < _
  omega

/-! _law_number -/
def sp_u_law_number : Sp := fun vs H Q _ => ∃ c : Int, vs = [.int c] ∧ ∀ r : Int, 0 ≤ r → Q (.int r) H
theorem ok_u_law_number (T : Tx K mg A) : FnOk P w K mg base CX0 (2) A.a_u_law_number A.d_u_law_number ["cell"] sp_u_law_number := by
  have G_u_law_mix := ok_u_law_mix (P := P) (w := w) (base := base) T
  refine T.F_u_law_number.ok sc_u_law_number (fun vs H Q E h => ?_) (fun cdv Ar outer s0 H vs Q E hr h => ?_)
  · obtain ⟨c, rfl, _⟩ := h; rfl
  obtain ⟨c, rfl, q⟩ := h
  refine ⟨_, (pss_cons (ps_if (pt_cmpR op_ge (pv 0) (pe_op op_pow pe_int pe_int) (nomark _)) (pss_one (ps_ret (pv 0))) pss_nil)
    (pss_cons (ps_set (i := 1) sc_u_law_number.nd rfl (Or.inl rfl) (pe_call G_u_law_mix (hr.mono (by omega)) rfl T.m_u_law_mix T.F_u_law_mix.kp T.b_u_law_mix .nil pass0 (pa_cons (pv 0) pa_nil)))
    (pss_one (ps_ret (pe_op op_add (pe_op op_mul (pv 1) pe_int) (pe_call G_u_law_mix (hr.mono (by omega)) rfl T.m_u_law_mix T.F_u_law_mix.kp T.b_u_law_mix .nil pass0 (pa_cons (pe_op op_add (pv 1) (pv 0)) pa_nil))))))), ?_⟩
  walk_at "rd"
  refine ite2 (fun e => ?_) (fun e => ?_)
  · walk_at "rd"
    have e := of_decide_eq_true e
    refine q _ (Int.le_trans ?_ e)
    decide
  · walk_at "rd"
    intro r1 r10 r11
    walk_at "rd"
    intro r2 r20 r21
    walk_at "rd"
    refine q _ ?_
    show 0 ≤ r1 * 2147483629 + r2
    omega

/-! _law_draw -/
def sp_u_law_draw : Sp := fun vs H Q _ => ∃ (s l : Addr) (m : Int), vs = [.ref s, .int m] ∧ St H s l ∧ 1 ≤ m ∧ m < 1073741824 ∧ ∀ r H', 0 ≤ r → r < m → But s H H' → St H' s l → Q (.int r) H'
theorem ok_u_law_draw (T : Tx K mg A) : FnOk P w K mg base CX0 (3) A.a_u_law_draw A.d_u_law_draw ["state", "many"] sp_u_law_draw := by
  have G_u_law_number := ok_u_law_number (P := P) (w := w) (base := base) T
  refine T.F_u_law_draw.ok sc_u_law_draw (fun vs H Q E h => ?_) (fun cdv Ar outer s0 H vs Q E hr h => ?_)
  · obtain ⟨s, l, m, rfl, _⟩ := h; rfl
  obtain ⟨s, l, m, rfl, hst, m1, m2, q⟩ := h
  refine ⟨_, (pss_cons (ps_if (PW.pt (pw_and (pt_cmpR op_lt (pe_ix (r := rIxL K) ix_list (pv 0) pe_int (fun _ _ => rfl)) (pv 1) (nomark _)) (pw_and1 (pt_cmpR op_lt (pe_ix (r := rIxL K) ix_list (pv 0) pe_int (fun _ _ => rfl)) (pe_callB (r := rLenS K) j_len (by rfl) T.n_len PySem.boot_len (pa_cons (pe_ix (r := rIxL K) ix_list (pv 0) pe_int (fun _ _ => rfl)) pa_nil)) (nomark _))))) (pss_cons (ps_asg (pe_call G_u_law_number (hr.mono (by omega)) rfl T.m_u_law_number T.F_u_law_number.kp T.b_u_law_number .nil pass0 (pa_cons (pe_ix (r := rIxL K) ix_list (pe_ix (r := rIxL K) ix_list (pv 0) pe_int (fun _ _ => rfl)) (pe_ix (r := rIxL K) ix_list (pv 0) pe_int (fun _ _ => rfl)) (fun _ _ => rfl)) pa_nil)) (pg_sub (pv 0) pe_int set_list))
    (pss_one (ps_asg (pe_op op_add (pe_ix (r := rIxL K) ix_list (pv 0) pe_int (fun _ _ => rfl)) pe_int) (pg_sub (pv 0) pe_int set_list)))) pss_nil)
    (pss_cons (ps_if (pt_cmpR op_eq (pe_ix (r := rIxL K) ix_list (pv 0) pe_int (fun _ _ => rfl)) pe_int (nomark _)) (pss_cons (ps_asg (pe_op op_mod (pe_callTy call_int1 (by rfl) T.n_int boot_int (pa_cons (pe_op op_add (pe_op op_mul (pe_ix (r := rIxL K) ix_list (pv 0) pe_int (fun _ _ => rfl)) pe_int) pe_int) pa_nil)) pe_int) (pg_sub (pv 0) pe_int set_list))
    (pss_one (ps_ret (pe_op op_modN (pe_callTy call_int1 (by rfl) T.n_int boot_int (pa_cons (pe_op op_fdiv (pe_ix (r := rIxL K) ix_list (pv 0) pe_int (fun _ _ => rfl)) pe_int) pa_nil)) (pv 1))))) pss_nil)
    (pss_cons (ps_set (i := 2) sc_u_law_draw.nd rfl (Or.inl rfl) (pe_op op_modN (pe_callTy call_int1 (by rfl) T.n_int boot_int (pa_cons (pe_ix (r := rIxL K) ix_list (pv 0) pe_int (fun _ _ => rfl)) pa_nil)) (pv 1)))
    (pss_cons (ps_asg (pe_op op_fdivN (pe_ix (r := rIxL K) ix_list (pv 0) pe_int (fun _ _ => rfl)) (pv 1)) (pg_sub (pv 0) pe_int set_list))
    (pss_one (ps_ret (pv 2))))))), ?_⟩
  obtain ⟨v, at0, sd, ns, h1, h2, a0, a1, v0, sd0, sd1, h63⟩ := hst
  have ls : l ≠ s := St.ne_list h1 h2
  refine seq_join (fun σ' H' => σ' = [some (.ref s), some (.int m), none] ∧ But s H H' ∧ ∃ v at0 sd : Int, H' s = some (.lst [.int v, .ref l, .int at0, .int sd]) ∧ H' l = some (.lst (ns.map V.int)) ∧ 0 ≤ at0 ∧ at0 ≤ (ns.length : Int) ∧ 0 ≤ v ∧ 0 ≤ sd ∧ sd < 2147483648) ?_ (fun N cont => ?_)
  · rintro σ' H' ⟨rfl, b1, v, at0, sd, h1, h2, a0, a1, v0, sd0, sd1⟩
    refine seq_join (fun σ' H'' => σ' = [some (.ref s), some (.int m), none] ∧ H'' = H') ?_ (fun N cont => ?_)
    · rintro σ' H'' ⟨rfl, rfl⟩
      walk_at "rd"
      refine q _ _ (fmod_0 m1) (fmod_lt m1) (b1.trans (but_upd _)) ⟨_, at0, sd, ns, upd_same, ?_, a0, a1, ?_, sd0, sd1, h63⟩
      · rw [upd_ne ls]; exact h2
      · exact Int.fdiv_nonneg v0 (by omega)
    · walk_at "rd"
      refine ite2 (fun e => ?_) (fun e => cont _ _ ⟨rfl, rfl⟩)
      walk_at "rd"
      refine q _ _ (fmod_0 m1) (fmod_lt m1) (b1.trans (but_upd _)) ⟨_, at0, _, ns, upd_same, ?_, a0, a1, v0, ?_, ?_, h63⟩
      · rw [upd_ne ls]; exact h2
      · exact Int.emod_nonneg _ (by decide)
      · show (sd * 48271 + 7) % 2147483647 < _
        omega
  · walk_at "rd"
    refine ite2 (fun e => ?_) (fun e => ?_)
    · walk_at "rd"
      refine ite2 (fun e => ?_) (fun e => ?_)
      · have e := of_decide_eq_true e
        rw [List.length_map] at e
        obtain ⟨n, gat⟩ := at_int a0 e
        walk_at "rd"
        intro r r0
        walk_at "rd"

        refine cont _ _ ⟨rfl, (but_upd _).trans (but_upd _), _, _, sd, upd_same, ?_, ?_, ?_, r0, sd0, sd1⟩
        · rw [upd_ne ls, upd_ne ls]; exact h2
        · show 0 ≤ at0 + 1
          omega
        · show at0 + 1 ≤ _
          omega
      · exact cont _ _ ⟨rfl, But.refl _ _, v, at0, sd, h1, h2, a0, a1, v0, sd0, sd1⟩
    · exact cont _ _ ⟨rfl, But.refl _ _, v, at0, sd, h1, h2, a0, a1, v0, sd0, sd1⟩

/-! _law_word -/
def sp_u_law_word : Sp := fun vs H Q _ => ∃ (s l : Addr) (m : Nat), vs = [.ref s, .int (m : Int)] ∧ St H s l ∧ m ≤ 1000 ∧ ∀ z H', But s H H' → St H' s l → z.length = m → Low z → Q (.str z) H'
theorem ok_u_law_word (T : Tx K mg A) : FnOk P w K mg base CX0 (4) A.a_u_law_word A.d_u_law_word ["state", "size"] sp_u_law_word := by
  have G_u_law_draw := ok_u_law_draw (P := P) (w := w) (base := base) T
  refine T.F_u_law_word.ok sc_u_law_word (fun vs H Q E h => ?_) (fun cdv Ar outer s0 H vs Q E hr h => ?_)
  · obtain ⟨s, l, m, rfl, _⟩ := h; rfl
  obtain ⟨s, l, m, rfl, hst, hm, q⟩ := h
  refine ⟨_, (pss_cons (ps_set (i := 2) sc_u_law_word.nd rfl (Or.inr rfl) pe_str)
    (pss_one (ps_ret (pe_join pe_str (pe_lc (own := [("k", 3)]) (by rfl) sc_u_law_word.nd (pi_range1 rfl T.n_range (pa_cons (pv 1) pa_nil)) (blkOk_by (own := [("k", 3)]) (N := ["state", "size", "letters", "k"]) (sc := defScope s_u_law_word) (by decide +kernel)) (fun _ _ _ _ _ => (pg_name (i := 3) sc_u_law_word.nd rfl (Or.inl rfl))) (fun _ _ _ _ _ => pts_nil) (fun _ _ _ _ _ => (pe_ix ix_str (pv 2) (pe_call G_u_law_draw (hr.mono (by omega)) rfl T.m_u_law_draw T.F_u_law_draw.kp T.b_u_law_draw .nil pass0 (pa_cons (pv 0) (pa_cons pe_int pa_nil))) (fun _ _ => rfl)))))))), ?_⟩
  refine ⟨⟨_, rfl⟩, ?_⟩
  walk_at "rd"
  refine ⟨by omega, by omega, fun D hD => ?_⟩
  obtain ⟨sD, lD⟩ := hst.free hD
  refine lc_range (lo := 0) (n := m) (fun i H' => ∃ zs : List Str, H' D = some (.lst (zs.map V.str)) ∧ zs.length = i ∧ (∀ z ∈ zs, z.length = 1 ∧ Low z) ∧ But s H H' ∧ St H' s l) ?_ ?_ ?_
  · exact ⟨[], upd_same, rfl, (fun z hz => nomatch hz), but_same (same_new hD _), hst.upd sD lD⟩
  · rintro i H1 hi ⟨zs, hD1, hl, hz, b1, st1⟩
    refine ⟨rfl, ?_⟩
    walk_at "rd"
    refine ⟨s, l, 26, rfl, st1, by decide, by decide, fun r H2 r0 r1 b2 st2 => ?_⟩
    refine ⟨_, _, _, rfl, rfl, by decide, abc_at r0 r1, ?_⟩
    have hD2 := b2 _ _ hD1 sD.symm
    refine ⟨_, hD2, ?_, zs ++ [⟨#[97 + r.toNat]⟩], ?_, ?_, ?_, (b1.trans b2).mut hD _, st2.upd sD lD⟩
    · rw [List.length_map]; exact Nat.lt_of_le_of_lt (show zs.length ≤ 1000 by omega) (by decide)
    · rw [upd_same, List.map_append]; rfl
    · rw [List.length_append, hl]; rfl
    · intro z hz'
      rcases List.mem_append.mp hz' with h | h
      · exact hz z h
      · rw [List.mem_singleton.mp h]
        exact ⟨rfl, low_one (by omega)⟩
  · rintro H1 ⟨zs, hD1, hl, hz, b1, st1⟩
    have j := join_low hz
    refine ⟨_, _, zs, rfl, rfl, .inl (SqL.of hD1), ?_, q _ _ b1 st1 (by rw [j.1, hl]) j.2⟩
    rw [sum_ones fun z h => (hz z h).1]
    show zs.length + zs.length * 0 ≤ _
    omega

/-! _law_names -/
def sp_u_law_names : Sp := fun vs H Q _ => ∃ (s l : Addr) (m : Nat), vs = [.ref s, .int (m : Int)] ∧ St H s l ∧ m ≤ 26 ∧ ∀ p fs H', But s H H' → St H' s l → H p = none → H' p = some (.lst (fs.map V.str)) → fs.length = m → Names fs → Q (.ref p) H'
theorem ok_u_law_names (T : Tx K mg A) : FnOk P w K mg base CX0 (5) A.a_u_law_names A.d_u_law_names ["state", "count"] sp_u_law_names := by
  have G_u_law_draw := ok_u_law_draw (P := P) (w := w) (base := base) T
  have G_u_law_word := ok_u_law_word (P := P) (w := w) (base := base) T
  refine T.F_u_law_names.ok sc_u_law_names (fun vs H Q E h => ?_) (fun cdv Ar outer s0 H vs Q E hr h => ?_)
  · obtain ⟨s, l, m, rfl, _⟩ := h; rfl
  obtain ⟨s, l, m, rfl, hst, hm, q⟩ := h
  refine ⟨_, (pss_cons (ps_set (i := 2) sc_u_law_names.nd rfl (Or.inr rfl) pe_str)
    (pss_cons (ps_set (i := 3) sc_u_law_names.nd rfl (Or.inr rfl) (pe_call G_u_law_word (hr.mono (by omega)) rfl T.m_u_law_word T.F_u_law_word.kp T.b_u_law_word .nil pass0 (pa_cons (pv 0) (pa_cons (pe_call G_u_law_draw (hr.mono (by omega)) rfl T.m_u_law_draw T.F_u_law_draw.kp T.b_u_law_draw .nil pass0 (pa_cons (pv 0) (pa_cons pe_int pa_nil))) pa_nil))))
    (pss_cons (ps_set (i := 4) sc_u_law_names.nd rfl (Or.inr rfl) (pe_call G_u_law_word (hr.mono (by omega)) rfl T.m_u_law_word T.F_u_law_word.kp T.b_u_law_word .nil pass0 (pa_cons (pv 0) (pa_cons (pe_call G_u_law_draw (hr.mono (by omega)) rfl T.m_u_law_draw T.F_u_law_draw.kp T.b_u_law_draw .nil pass0 (pa_cons (pv 0) (pa_cons pe_int pa_nil))) pa_nil))))
    (pss_cons (ps_set (i := 5) sc_u_law_names.nd rfl (Or.inr rfl) (pe_call G_u_law_draw (hr.mono (by omega)) rfl T.m_u_law_draw T.F_u_law_draw.kp T.b_u_law_draw .nil pass0 (pa_cons (pv 0) (pa_cons pe_int pa_nil))))
    (pss_one (ps_ret (pe_lc (own := [("k", 6)]) (by rfl) sc_u_law_names.nd (pi_range1 rfl T.n_range (pa_cons (pv 1) pa_nil)) (blkOk_by (own := [("k", 6)]) (N := ["state", "count", "letters", "before", "behind", "first", "k"]) (sc := defScope s_u_law_names) (by decide +kernel)) (fun _ _ _ _ _ => (pg_name (i := 6) sc_u_law_names.nd rfl (Or.inl rfl))) (fun _ _ _ _ _ => pts_nil) (fun _ _ _ _ _ => (pe_op op_add_str (pe_op op_add_str (pv 3) (pe_ix ix_str (pv 2) (pe_op op_mod (pe_callTy call_int1 (by rfl) T.n_int boot_int (pa_cons (pe_op op_add (pv 5) (pe_op op_mul pe_int (pv 6))) pa_nil)) pe_int) (fun _ _ => rfl))) (pv 4)))))))))), ?_⟩
  walk_at "rd"
  refine ⟨s, l, 4, rfl, hst, by decide, by decide, fun r1 H1 r10 r11 b1 st1 => ?_⟩
  obtain ⟨k1, rfl⟩ := Int.eq_ofNat_of_zero_le r10
  refine ⟨s, l, k1, rfl, st1, by omega, fun z1 H2 b2 st2 zl1 zw1 => ?_⟩
  walk_at "rd"
  refine ⟨s, l, 4, rfl, st2, by decide, by decide, fun r3 H3 r30 r31 b3 st3 => ?_⟩
  obtain ⟨k3, rfl⟩ := Int.eq_ofNat_of_zero_le r30
  refine ⟨s, l, k3, rfl, st3, by omega, fun z4 H4 b4 st4 zl4 zw4 => ?_⟩
  walk_at "rd"
  refine ⟨s, l, 26, rfl, st4, by decide, by decide, fun r5 H5 r50 r51 b5 st5 => ?_⟩
  obtain ⟨f, rfl⟩ := Int.eq_ofNat_of_zero_le r50
  walk_at "rd"
  refine ⟨by omega, by omega, fun D hD => ?_⟩
  have bb := b1.trans (b2.trans (b3.trans (b4.trans b5)))
  obtain ⟨sD, lD⟩ := st5.free hD
  have hD0 : H D = none := by
    cases e : H D with
    | none => rfl
    | some o =>
      have := bb _ _ e sD.symm
      rw [hD] at this; cases this
  refine lc_range (lo := 0) (n := m) (fun i H' => H' D = some (.lst (((List.range i).map (nameAt z1 z4 f)).map V.str)) ∧ But s H5 H' ∧ St H' s l) ?_ ?_ ?_
  · exact ⟨upd_same, but_same (same_new hD _), st5.upd sD lD⟩
  · rintro i H6 hi ⟨hD6, b6, st6⟩
    refine ⟨rfl, ?_⟩
    walk_at "rd"
    have e : ((f : Int) + 3 * (0 + (i : Int))) % 26 = (((f + 3 * i) % 26 : Nat) : Int) := by omega
    refine ⟨_, _, 97 + (f + 3 * i) % 26, rfl, rfl, by decide, ?_, ?_⟩
    · show atI _ (((f : Int) + 3 * (0 + (i : Int))) % 26) = _
      rw [e]
      exact atI_nat (abc _ (Nat.mod_lt _ (by decide)))
    refine ⟨_, _, rfl, rfl, ?_, ?_⟩
    · show z1.length + 1 ≤ _
      exact Nat.le_trans (show z1.length + 1 ≤ 4 by omega) (by decide)
    walk_at "rd"
    refine ⟨?_, ?_⟩
    · rw [len_app]
      show z1.length + 1 + z4.length ≤ _
      exact Nat.le_trans (show z1.length + 1 + z4.length ≤ 10 by omega) (by decide)
    refine ⟨_, hD6, ?_, ?_, b6.mut hD _, st6.upd sD lD⟩
    · rw [List.length_map, List.length_map, List.length_range]; exact Nat.lt_of_le_of_lt (show i ≤ 26 by omega) (by decide)
    · rw [upd_same, List.range_succ, List.map_append, List.map_append]; rfl
  · rintro H6 ⟨hD6, b6, st6⟩
    refine q D _ H6 (bb.trans b6) st6 hD0 hD6 ?_ (names_ok zw1 zw4 (by omega) (by omega) hm)
    rw [List.length_map, List.length_range]

/-! _law_two -/
def sp_u_law_two : Sp := fun vs H Q _ => ∃ (s l : Addr), vs = [.ref s] ∧ St H s l ∧ ∀ o fs H', But s H H' → St H' s l → H o = none → Ops6 H' o fs → Q (.ref o) H'
theorem ok_u_law_two (T : Tx K mg A) : FnOk P w K mg base CX0 (6) A.a_u_law_two A.d_u_law_two ["state"] sp_u_law_two := by
  have G_u_law_names := ok_u_law_names (P := P) (w := w) (base := base) T
  refine T.F_u_law_two.ok sc_u_law_two (fun vs H Q E h => ?_) (fun cdv Ar outer s0 H vs Q E hr h => ?_)
  · obtain ⟨s, l, rfl, hst, q⟩ := h; rfl
  obtain ⟨s, l, rfl, hst, q⟩ := h
  refine ⟨_, (pss_cons (ps_set (i := 1) sc_u_law_two.nd rfl (Or.inr rfl) (pe_call G_u_law_names (hr.mono (by omega)) rfl T.m_u_law_names T.F_u_law_names.kp T.b_u_law_names .nil pass0 (pa_cons (pv 0) (pa_cons pe_int pa_nil))))
    (pss_cons (ps_set (i := 2) sc_u_law_two.nd rfl (Or.inr rfl) (pe_lst (pa_cons pe_int (pa_cons pe_int (pa_cons pe_int (pa_cons pe_int (pa_cons pe_int (pa_cons pe_int pa_nil))))))))
    (pss_one (ps_ret (pe_lc (own := [("k", 3)]) (by rfl) sc_u_law_two.nd (pi_range1 rfl T.n_range (pa_cons pe_int pa_nil)) (blkOk_by (own := [("k", 3)]) (N := ["state", "names", "arities", "k"]) (sc := defScope s_u_law_two) (by decide +kernel)) (fun _ _ _ _ _ => (pg_name (i := 3) sc_u_law_two.nd rfl (Or.inl rfl))) (fun _ _ _ _ _ => pts_nil) (fun _ _ _ _ _ => (pe_tup (pa_cons (pe_ix (r := rIxL K) ix_list (pv 1) (pv 3) (fun _ _ => rfl)) (pa_cons (pe_ix (r := rIxL K) ix_list (pv 2) (pv 3) (fun _ _ => rfl)) pa_nil))))))))), ?_⟩
  walk_at "rd"
  refine ⟨s, l, 6, rfl, hst, by decide, fun p fs H1 b1 st1 np hp hl hn => ?_⟩
  walk_at "rd"
  refine ⟨by show 6 ≤ sizeLine; decide, ?_⟩
  first | intro ra n2 | refine fun ra n2 => ?_
  generalize ehn : upd H1 ra _ = H2
  have s2 := J.al_same n2 ehn
  have h2 := J.al_at ehn
  clear ehn
  walk_at "rd"
  have st2 := st1.same s2
  refine ⟨by omega, by omega, fun D hD => ?_⟩
  obtain ⟨sD, lD⟩ := st2.free hD
  have bb := b1.trans (but_same s2)
  have hD0 : H D = none := by
    cases e : H D with
    | none => rfl
    | some o =>
      have := bb _ _ e sD.symm
      rw [hD] at this; cases this
  have hp3 : H2 p = some (.lst (fs.map V.str)) := s2 _ _ hp
  refine lc_range (lo := 0) (n := 6) (fun i H' => ∃ as : List Addr, H' D = some (.lst (as.map V.ref)) ∧ as.length = i ∧ Same H2 H' ∧ ∀ (k : Nat) (f : Str) (a : Addr), fs[k]? = some f → as[k]? = some a → H' a = some (.tup [.str f, .int (ar (ix6 k))])) ?_ ?_ ?_
  · exact ⟨[], upd_same, rfl, same_new hD _, fun k f a _ e => by simp at e⟩
  · rintro i H6 hi ⟨as, hD6, hl6, s6, ht⟩
    refine ⟨rfl, ?_⟩
    have hi5 : i < fs.length := by omega
    have gf : (fs.map V.str)[i]? = some (.str fs[i]) := by rw [List.getElem?_map, List.getElem?_eq_getElem hi5]; rfl
    have e0 : (0 : Int) + (i : Int) = (i : Int) := by omega
    walk_at "rd"
    refine ⟨p, _, _, _, rfl, rfl, SqL.of (s6 _ _ hp3), by rw [e0]; exact atI_nat gf, ?_⟩
    walk_at "rd"
    have ga : ([.int 0, .int 0, .int 1, .int 2, .int 2, .int 3] : List V)[i]? = some (.int (ar (ix6 i))) := by
      match i, hi5, hl with
      | 0, _, _ => rfl
      | 1, _, _ => rfl
      | 2, _, _ => rfl
      | 3, _, _ => rfl
      | 4, _, _ => rfl
      | 5, _, _ => rfl
      | j + 6, h5, hl => omega
    refine ⟨ra, _, _, _, rfl, rfl, SqL.of (s6 _ _ h2), by rw [e0]; exact atI_nat ga, ?_⟩
    walk_at "rd"
    refine ⟨by show 2 ≤ sizeLine; decide, ?_⟩
    first | intro t n7 | refine fun t n7 => ?_
    generalize ehn : upd H6 t _ = H7
    have s7 := J.al_same n7 ehn
    have h7 := J.al_at ehn
    clear ehn
    refine ⟨_, s7 _ _ hD6, ?_, as ++ [t], ?_, ?_, ?_, ?_⟩
    · rw [List.length_map]; exact Nat.lt_of_le_of_lt (show as.length ≤ 6 by omega) (by decide)
    · rw [upd_same, List.map_append]; rfl
    · rw [List.length_append, hl6]; rfl
    · exact same_mut (s6.trans s7) hD _
    · intro k f a hf ha
      have ntD : ∀ b xs, H7 b = some (.tup xs) → b ≠ D := fun b xs e z => by
        rw [z, s7 _ _ hD6] at e; cases e
      by_cases hk : k < as.length
      · rw [List.getElem?_append_left hk] at ha
        have q := s7 _ _ (ht k f a hf ha)
        rw [upd_ne (ntD _ _ q)]; exact q
      · have ek : k = i := by
          have := (List.getElem?_eq_some_iff.mp ha).1
          rw [List.length_append, List.length_singleton] at this
          omega
        subst ek
        rw [List.getElem?_append_right (by omega), hl6, Nat.sub_self] at ha
        have ea : t = a := by simpa using ha
        subst ea
        rw [List.getElem?_eq_getElem hi5] at hf
        injection hf with hf
        subst hf
        rw [upd_ne (ntD _ _ h7)]; exact h7
  · rintro H6 ⟨as, hD6, hl6, s6, ht⟩
    refine q D (sw6 fs) H6 (bb.trans (but_same s6)) (st2.same s6) hD0 ⟨sw6_names hl hn, sw6_len hl, as, hD6, hl6, fun k f a hf ha => ?_⟩
    have hk : k < 6 := by
      have := (List.getElem?_eq_some_iff.mp ha).1
      omega
    rw [sw6_get hl hk] at hf
    exact ht k f a hf ha

/-! _law_leaf -/
def sp_u_law_leaf : Sp := fun vs H Q _ => ∃ (s l o : Addr) (fs : List Str) (B : Int), vs = [.ref s, .ref o, .int B] ∧ St H s l ∧ Ops6 H o fs ∧ 0 ≤ B ∧ B < 1073741824 ∧ ∀ v t H', But s H H' → St H' s l → TmIn H' t v → t.wf fs B → t.dep ≤ 1 → t.sz = 1 → Q v H'
theorem ok_u_law_leaf (T : Tx K mg A) : FnOk P w K mg base CX0 (4) A.a_u_law_leaf A.d_u_law_leaf ["state", "operations", "count"] sp_u_law_leaf := by
  have G_u_law_draw := ok_u_law_draw (P := P) (w := w) (base := base) T
  refine T.F_u_law_leaf.ok sc_u_law_leaf (fun vs H Q E h => ?_) (fun cdv Ar outer s0 H vs Q E hr h => ?_)
  · obtain ⟨s, l, o, fs, B, rfl, _⟩ := h; rfl
  obtain ⟨s, l, o, fs, B, rfl, hst, hop, B0, B1, q⟩ := h
  refine ⟨_, (pss_cons (ps_if (PW.pt (pw_and (pt_cmpR op_gt (pv 2) pe_int (nomark _)) (pw_and1 (pt_cmpR op_eq (pe_call G_u_law_draw (hr.mono (by omega)) rfl T.m_u_law_draw T.F_u_law_draw.kp T.b_u_law_draw .nil pass0 (pa_cons (pv 0) (pa_cons pe_int pa_nil))) pe_int (nomark _))))) (pss_one (ps_ret (pe_call G_u_law_draw (hr.mono (by omega)) rfl T.m_u_law_draw T.F_u_law_draw.kp T.b_u_law_draw .nil pass0 (pa_cons (pv 0) (pa_cons (pv 2) pa_nil))))) pss_nil)
    (pss_one (ps_ret (pe_tup (pa_cons (pe_ix (r := rIxT K) ix_tup (pe_ix (r := rIxL K) ix_list (pv 1) (pe_call G_u_law_draw (hr.mono (by omega)) rfl T.m_u_law_draw T.F_u_law_draw.kp T.b_u_law_draw .nil pass0 (pa_cons (pv 0) (pa_cons pe_int pa_nil))) (fun _ _ => rfl)) pe_int (fun _ _ => rfl)) pa_nil))))), ?_⟩
  refine seq_join (fun σ' H' => σ' = [some (.ref s), some (.ref o), some (.int B)] ∧ But s H H' ∧ St H' s l) ?_ (fun N cont => ?_)
  · rintro σ' H1 ⟨rfl, b1, st1⟩
    have op1 := hop.but hst b1
    walk_at "rd"
    refine ⟨s, l, 2, rfl, st1, by decide, by decide, fun r H2 r0 r1 b2 st2 => ?_⟩
    have op2 := op1.but st1 b2
    obtain ⟨n, rfl⟩ := Int.eq_ofNat_of_zero_le r0
    obtain ⟨xs, a, f, ho, hl, hx, hf, ha⟩ := op2.get (k := n) (by omega)
    refine ⟨o, _, _, _, rfl, rfl, SqL.of ho, atI_nat hx, ?_⟩
    walk_at "rd"
    refine ⟨by show 1 ≤ sizeLine; decide, ?_⟩
    first | intro p n3 | refine fun p n3 => ?_
    generalize ehn : upd H2 p _ = H3
    have s3 := J.al_same n3 ehn
    have h3 := J.al_at ehn
    clear ehn
    refine q (.ref p) (.app f []) H3 (b1.trans (b2.trans (but_same s3))) (st2.same s3) ⟨p, [], rfl, h3, rfl⟩ ⟨⟨ix6 n, hf, ?_⟩, trivial⟩ (Nat.le_refl _) rfl
    show 0 = ar (ix6 n)
    rw [ix6_low (by omega), ar_zero (by omega)]
  · walk_at "rd"
    refine ite2 (fun e => ?_) (fun e => ?_)
    · have e := of_decide_eq_true e
      walk_at "rd"
      refine ⟨s, l, 2, rfl, hst, by decide, by decide, fun r H2 r0 r1 b2 st2 => ?_⟩
      walk_at "rd"
      refine ite2 (fun e2 => ?_) (fun e2 => ?_)
      · walk_at "rd"
        refine ⟨s, l, B, rfl, st2, by omega, B1, fun r3 H3 r30 r31 b3 st3 => ?_⟩
        exact q _ (.var r3) H3 (b2.trans b3) st3 rfl ⟨r30, r31⟩ (Nat.le_refl _) rfl
      · exact cont _ _ ⟨rfl, b2, st2⟩
    · exact cont _ _ ⟨rfl, But.refl _ _, hst⟩

/-! _law_term -/
def sp_u_law_term (N : Nat) : Sp := fun vs H Q _ => ∃ (s l o : Addr) (fs : List Str) (B : Int) (h : Nat), h < N ∧ vs = [.ref s, .ref o, .int B, .int (h : Int)] ∧ St H s l ∧ Ops6 H o fs ∧ 0 ≤ B ∧ B < 1073741824 ∧
  ∀ v t H', But s H H' → St H' s l → TmIn H' t v → t.wf fs B → t.dep ≤ h + 1 → 2 * t.sz + 1 ≤ 3 ^ (h + 1) → Q v H'
theorem st_u_law_term (T : Tx K mg A) (N : Nat) (G_u_law_term : FnOk P w K mg base CX0 (N + 5) A.a_u_law_term A.d_u_law_term ["state", "operations", "count", "height"] (sp_u_law_term N)) : FnOk P w K mg base CX0 (N + 6) A.a_u_law_term A.d_u_law_term ["state", "operations", "count", "height"] (sp_u_law_term (N + 1)) := by
  have G_u_law_draw := ok_u_law_draw (P := P) (w := w) (base := base) T
  have G_u_law_leaf := ok_u_law_leaf (P := P) (w := w) (base := base) T
  refine T.F_u_law_term.ok sc_u_law_term (fun vs H Q E h => ?_) (fun cdv Ar outer s0 H vs Q E hr h => ?_)
  · obtain ⟨s, l, o, fs, B, h, hN, rfl, _⟩ := h; rfl
  obtain ⟨s, l, o, fs, B, h, hN, rfl, hst, hop, B0, B1, q⟩ := h
  refine ⟨_, (pss_cons (ps_if (PW.pt (pw_or (pt_cmpR op_eq (pv 3) pe_int (nomark _)) (pw_or1 (pt_cmpR op_eq (pe_call G_u_law_draw (hr.mono (by omega)) rfl T.m_u_law_draw T.F_u_law_draw.kp T.b_u_law_draw .nil pass0 (pa_cons (pv 0) (pa_cons pe_int pa_nil))) pe_int (nomark _))))) (pss_one (ps_ret (pe_call G_u_law_leaf (hr.mono (by omega)) rfl T.m_u_law_leaf T.F_u_law_leaf.kp T.b_u_law_leaf .nil pass0 (pa_cons (pv 0) (pa_cons (pv 1) (pa_cons (pv 2) pa_nil)))))) pss_nil)
    (pss_cons (ps_asg (pe_ix (r := rIxL K) ix_list (pv 1) (pe_op op_add pe_int (pe_call G_u_law_draw (hr.mono (by omega)) rfl T.m_u_law_draw T.F_u_law_draw.kp T.b_u_law_draw .nil pass0 (pa_cons (pv 0) (pa_cons (pe_op op_sub (pe_callB (r := rLenS K) j_len (by rfl) T.n_len PySem.boot_len (pa_cons (pv 1) pa_nil)) pe_int) pa_nil)))) (fun _ _ => rfl)) (pg_tup (by rfl) (pgs_cons (pg_name (i := 4) sc_u_law_term.nd rfl (Or.inl rfl)) (pgs_cons (pg_name (i := 5) sc_u_law_term.nd rfl (Or.inl rfl)) pgs_nil))))
    (pss_cons (ps_set (i := 6) sc_u_law_term.nd rfl (Or.inl rfl) (pe_tup (pa_cons (pv 4) pa_nil)))
    (pss_cons (ps_for PassesOwn.never rfl (pi_range1 rfl T.n_range (pa_cons (pv 5) pa_nil)) (pg_name (i := 7) sc_u_law_term.nd rfl (Or.inl rfl)) (pss_one (ps_set (i := 6) sc_u_law_term.nd rfl (Or.inl rfl) (pe_op (r := rCatT K) op_catT (pv 6) (pe_tup (pa_cons (pe_call G_u_law_term (hr.mono (by omega)) rfl T.m_u_law_term T.F_u_law_term.kp T.b_u_law_term .nil pass0 (pa_cons (pv 0) (pa_cons (pv 1) (pa_cons (pv 2) (pa_cons (pe_op op_sub (pv 3) pe_int) pa_nil))))) pa_nil))))))
    (pss_one (ps_ret (pv 6))))))), ?_⟩
  refine seq_join (fun σ' H' => σ' = [some (.ref s), some (.ref o), some (.int B), some (.int (h : Int)), none, none, none, none] ∧ But s H H' ∧ St H' s l ∧ 1 ≤ h) ?_ (fun N' cont => ?_)
  · rintro σ' H1 ⟨rfl, b1, st1, h1⟩
    have op1 := hop.but hst b1
    obtain ⟨xs1, _, _, ho1, hxl, _⟩ := op1.get (k := 0) (by decide)
    walk_at "rd"
    refine ⟨s, l, _, rfl, st1, by show (1 : Int) ≤ (xs1.length : Int) - 2; omega, by show (xs1.length : Int) - 2 < _; omega, fun r H2 r0 r1 b2 st2 => ?_⟩
    have r1 : r < (xs1.length : Int) - 2 := r1
    have op2 := op1.but st1 b2
    obtain ⟨n, rfl⟩ := Int.eq_ofNat_of_zero_le r0
    obtain ⟨xs, a, f, ho, hl, hx, hf, ha⟩ := op2.get (k := n + 2) (by omega)
    have e2 : (2 : Int) + (n : Int) = ((n + 2 : Nat) : Int) := by omega
    refine ⟨_, _, rfl, rfl, ?_⟩
    refine ⟨o, _, _, _, rfl, rfl, SqL.of ho, by rw [e2]; exact atI_nat hx, ?_⟩
    refine ⟨a, _, rfl, SqT.of ha, rfl, _, _, rfl, _, _, rfl, rfl, ?_⟩
    walk_at "rd"
    refine ⟨by show 1 ≤ sizeLine; decide, ?_⟩
    first | intro p n3 | refine fun p n3 => ?_
    generalize ehn : upd H2 p _ = H3
    have s3 := J.al_same n3 ehn
    have h3 := J.al_at ehn
    clear ehn
    have i2 := ix6_mid (k := n + 2) (by omega) (by omega)
    have har := ar_le i2.2
    have st3 := st2.same s3
    have op3 := op2.same s3
    walk_at "rd"
    refine ⟨by omega, by omega, for_range (lo := 0) (n := ar (ix6 (n + 2))) (fun i σ' H' => ∃ p ts vs x, σ' = [some (.ref s), some (.ref o), some (.int B), some (.int (h : Int)), some (.str f), some (.int (ar (ix6 (n + 2)) : Int)), some (.ref p), x] ∧ H' p = some (.tup (.str f :: vs)) ∧ TmsIn H' ts vs ∧ ts.length = i ∧ (∀ t ∈ ts, t.wf fs B ∧ t.dep ≤ h ∧ 2 * t.sz + 1 ≤ 3 ^ h) ∧ But s H3 H' ∧ St H' s l) ?_ ?_ ?_⟩
    · exact ⟨p, [], [], none, rfl, h3, rfl, rfl, (fun t ht => nomatch ht), But.refl _ _, st3⟩
    · rintro i σ' H4 hi ⟨p, ts, vs, x, rfl, hp, hts, hl', hw, b4, st4⟩
      walk_at "rd"
      refine ⟨s, l, o, fs, B, h - 1, by omega, by have e : ((h - 1 : Nat) : Int) = (h : Int) - 1 := by omega
                                                  rw [e]; rfl, st4, op3.but st3 b4, B0, B1, fun v t H5 b5 st5 ht htw htd hts' => ?_⟩
      refine ⟨by show 1 ≤ sizeLine; decide, ?_⟩
      first | intro u n6 | refine fun u n6 => ?_
      generalize ehn : upd H5 u _ = H6
      have s6 := J.al_same n6 ehn
      have h6 := J.al_at ehn
      clear ehn
      have tu45 := st4.tu b5
      have hlen : vs.length = i := by rw [hts.length, hl']
      refine ⟨p, u, _, _, rfl, rfl, SqT.of (s6 _ _ (tu45 _ _ hp)), SqT.of h6, List.cons_ne_nil _ _, ?_, fun z => absurd z (List.cons_ne_nil _ _), fun _ => ?_⟩
      · rw [List.length_cons, hlen]
        exact Nat.le_trans (show i + 1 + 1 ≤ 10 by omega) (by decide)
      first | intro y n7 | refine fun y n7 => ?_
      generalize ehn : upd H6 y _ = H7
      have s7 := J.al_same n7 ehn
      have h7 := J.al_at ehn
      clear ehn
      have tu67 : Tu H4 H7 := tu45.trans ((tu_same s6).trans (tu_same s7))
      refine ⟨y, ts ++ [t], vs ++ [v], _, rfl, h7, (hts.tu tu67).append (TmsIn.one ((ht.tu (tu_same s6)).tu (tu_same s7))), ?_, ?_, b4.trans (b5.trans ((but_same s6).trans (but_same s7))), (st5.same s6).same s7⟩
      · rw [List.length_append, hl']; rfl
      · intro t' ht'
        rcases List.mem_append.mp ht' with z | z
        · exact hw t' z
        · rw [List.mem_singleton.mp z]
          rw [show h - 1 + 1 = h by omega] at hts' htd
          exact ⟨htw, htd, hts'⟩
    · rintro σ' H4 ⟨p, ts, vs, x, rfl, hp, hts, hl', hw, b4, st4⟩
      walk_at "rd"
      refine q (.ref p) (.app f ts) H4 (b1.trans (b2.trans ((but_same s3).trans b4))) st4 ⟨p, vs, rfl, hp, hts⟩ ⟨⟨ix6 (n + 2), hf, hl'⟩, Tm.wfs_of fun t ht => (hw t ht).1⟩ ?_ ?_
      · have := Tm.deps_le fun t ht => (hw t ht).2.1
        show 1 + Tm.deps ts ≤ h + 1
        omega
      · exact Tm.szs_three (by omega) fun t ht => (hw t ht).2.2
  · walk_at "rd"
    refine ite2 (fun e => ?_) (fun e => ?_)
    · walk_at "rd"
      refine ⟨s, l, o, fs, B, rfl, hst, hop, B0, B1, fun v t H1 b1 st1 ht hw hd hz => q v t H1 b1 st1 ht hw (by omega) (by rw [hz]; exact Nat.pow_le_pow_right (by decide : 3 > 0) (show 1 ≤ h + 1 by omega))⟩
    · have e : ¬ V.int (h : Int) = V.int 0 := fun z => e (decide_eq_true z)
      have h1 : 1 ≤ h := by
        rcases Nat.eq_zero_or_pos h with z | z
        · rw [z] at e; exact absurd rfl e
        · exact z
      walk_at "rd"
      refine ⟨s, l, 4, rfl, hst, by decide, by decide, fun r H2 r0 r1 b2 st2 => ?_⟩
      walk_at "rd"
      refine ite2 (fun e => ?_) (fun e => ?_)
      · walk_at "rd"
        refine ⟨s, l, o, fs, B, rfl, st2, hop.but hst b2, B0, B1, fun v t H1 b1 st1 ht hw hd hz => q v t H1 (b2.trans b1) st1 ht hw (by omega) (by rw [hz]; exact Nat.pow_le_pow_right (by decide : 3 > 0) (show 1 ≤ h + 1 by omega))⟩
      · exact cont _ _ ⟨rfl, b2, st2, h1⟩

theorem all_u_law_term (T : Tx K mg A) : ∀ N : Nat, FnOk P w K mg base CX0 (N + 5) A.a_u_law_term A.d_u_law_term ["state", "operations", "count", "height"] (sp_u_law_term N)
  | 0 => fn_none fun vs H Q E h => by obtain ⟨s, l, o, fs, B, h, hN, _⟩ := h; omega
  | N + 1 => st_u_law_term T N (all_u_law_term T N)
theorem ok_u_law_term (T : Tx K mg A) : FnOk P w K mg base CX0 10 A.a_u_law_term A.d_u_law_term ["state", "operations", "count", "height"] (sp_u_law_term 5) := all_u_law_term T 5

/-! _law_same -/
def sp_u_law_same (N : Nat) : Sp := fun vs H Q _ => ∃ (v u : V) (t r : Tm), vs = [v, u] ∧ TmIn H t v ∧ TmIn H r u ∧ t.sz ≤ 100000 ∧ t.dep ≤ N ∧ ∀ b H', Same H H' → (b = true ↔ t = r) → Q (.bl b) H'
theorem st_u_law_same (T : Tx K mg A) (N : Nat) (G_u_law_same : FnOk P w K mg base CX0 (N + 1) A.a_u_law_same A.d_u_law_same ["first", "second"] (sp_u_law_same N)) : FnOk P w K mg base CX0 (N + 2) A.a_u_law_same A.d_u_law_same ["first", "second"] (sp_u_law_same (N + 1)) := by

  refine T.F_u_law_same.ok sc_u_law_same (fun vs H Q E h => ?_) (fun cdv Ar outer s0 H vs Q E hr h => ?_)
  · obtain ⟨v, u, t, r, rfl, _⟩ := h; rfl
  obtain ⟨v, u, t, r, rfl, ht, hr', hz, hd, q⟩ := h
  refine ⟨_, (pss_cons (ps_if (PW.pt (pw_or (pt_val (pe_callB (r := rIsi K) call_isi (by rfl) T.n_isinstance boot_isinstance (pa_cons (pv 0) (pa_cons (pe_bltn (v := .ty "bool") (by rfl) T.n_bool boot_bool rfl) pa_nil)))) (pw_or1 (pt_val (pe_callB (r := rIsi K) call_isi (by rfl) T.n_isinstance boot_isinstance (pa_cons (pv 1) (pa_cons (pe_bltn (v := .ty "bool") (by rfl) T.n_bool boot_bool rfl) pa_nil))))))) (pss_one (ps_ret pe_bl)) pss_nil)
    (pss_cons (ps_if (PW.pt (pw_or (pt_val (pe_callB (r := rIsi K) call_isi (by rfl) T.n_isinstance boot_isinstance (pa_cons (pv 0) (pa_cons (pe_bltn (v := .ty "int") (by rfl) T.n_int boot_int rfl) pa_nil)))) (pw_or1 (pt_val (pe_callB (r := rIsi K) call_isi (by rfl) T.n_isinstance boot_isinstance (pa_cons (pv 1) (pa_cons (pe_bltn (v := .ty "int") (by rfl) T.n_int boot_int rfl) pa_nil))))))) (pss_one (ps_ret (pe_and (pe_callB (r := rIsi K) call_isi (by rfl) T.n_isinstance boot_isinstance (pa_cons (pv 0) (pa_cons (pe_bltn (v := .ty "int") (by rfl) T.n_int boot_int rfl) pa_nil))) (pe_and (pe_callB (r := rIsi K) call_isi (by rfl) T.n_isinstance boot_isinstance (pa_cons (pv 1) (pa_cons (pe_bltn (v := .ty "int") (by rfl) T.n_int boot_int rfl) pa_nil))) (pe_one (pe_cmpR op_eq (pv 0) (pv 1) (nomark _))))))) pss_nil)
    (pss_cons (ps_if (PW.pt (pw_or (pt_not (pt_val (pe_callB (r := rIsi K) call_isi (by rfl) T.n_isinstance boot_isinstance (pa_cons (pv 0) (pa_cons (pe_bltn (v := .ty "tuple") (by rfl) T.n_tuple boot_tuple rfl) pa_nil))))) (pw_or (pt_not (pt_val (pe_callB (r := rIsi K) call_isi (by rfl) T.n_isinstance boot_isinstance (pa_cons (pv 1) (pa_cons (pe_bltn (v := .ty "tuple") (by rfl) T.n_tuple boot_tuple rfl) pa_nil))))) (pw_or1 (pt_cmpR op_ne (pe_callB (r := rLenS K) j_len (by rfl) T.n_len PySem.boot_len (pa_cons (pv 0) pa_nil)) (pe_callB (r := rLenS K) j_len (by rfl) T.n_len PySem.boot_len (pa_cons (pv 1) pa_nil)) (nomark _)))))) (pss_one (ps_ret pe_bl)) pss_nil)
    (pss_cons (ps_if (PW.pt (pw_or (pt_cmpR op_eq (pe_callB (r := rLenS K) j_len (by rfl) T.n_len PySem.boot_len (pa_cons (pv 0) pa_nil)) pe_int (nomark _)) (pw_or (pt_not (pt_val (pe_callB (r := rIsi K) call_isi (by rfl) T.n_isinstance boot_isinstance (pa_cons (pe_ix (r := rIxT K) ix_tup (pv 0) pe_int (fun _ _ => rfl)) (pa_cons (pe_bltn (v := .ty "str") (by rfl) T.n_str boot_str rfl) pa_nil))))) (pw_or1 (pt_cmpR op_ne (pe_ix (r := rIxT K) ix_tup (pv 0) pe_int (fun _ _ => rfl)) (pe_ix (r := rIxT K) ix_tup (pv 1) pe_int (fun _ _ => rfl)) (nomark _)))))) (pss_one (ps_ret pe_bl)) pss_nil)
    (pss_cons (ps_for PassesOwn.never rfl (pi_range2 rfl T.n_range (pa_cons pe_int (pa_cons (pe_callB (r := rLenS K) j_len (by rfl) T.n_len PySem.boot_len (pa_cons (pv 0) pa_nil)) pa_nil))) (pg_name (i := 2) sc_u_law_same.nd rfl (Or.inl rfl)) (pss_one (ps_if (pt_not (pt_val (pe_call G_u_law_same (hr.mono (by omega)) rfl T.m_u_law_same T.F_u_law_same.kp T.b_u_law_same .nil pass0 (pa_cons (pe_ix (r := rIxT K) ix_tup (pv 0) (pv 2) (fun _ _ => rfl)) (pa_cons (pe_ix (r := rIxT K) ix_tup (pv 1) (pv 2) (fun _ _ => rfl)) pa_nil))))) (pss_one (ps_ret pe_bl)) pss_nil)))
    (pss_one (ps_ret pe_bl))))))), ?_⟩
  cases t with
  | var n =>
    cases (show v = .int n from ht)
    cases r with
    | var m =>
      cases (show u = .int m from hr')
      walk_at "ri"
      refine q _ H (Same.refl _) ?_
      rw [decide_eq_true_iff]
      exact ⟨fun e => by injection e with e; rw [e], fun e => by injection e with e; rw [e]⟩
    | app g rs =>
      obtain ⟨b, ws, rfl, hb, hrs⟩ := hr'
      walk_at "ri"
      exact q _ H (Same.refl _) ⟨(fun e => nomatch e), (fun e => nomatch e)⟩
  | app f ts =>
    obtain ⟨a, vs, rfl, ha, hts⟩ := ht
    cases r with
    | var m =>
      cases (show u = .int m from hr')
      walk_at "ri"
      exact q _ H (Same.refl _) ⟨(fun e => nomatch e), (fun e => nomatch e)⟩
    | app g rs =>
      obtain ⟨b, ws, rfl, hb, hrs⟩ := hr'
      have l1 := hts.length
      have l2 := hrs.length
      walk_at "ri"
      refine ifNe (fun e => ?_) (fun e => ?_)
      · walk_at "rd"
        refine q _ H (Same.refl _) ⟨(fun z => nomatch z), fun z => ?_⟩
        injection z with _ z
        have e : ((vs.length + 1 : Nat) : Int) ≠ ((ws.length + 1 : Nat) : Int) := e
        rw [z] at l1
        exact absurd (by rw [l1, l2]) e
      · have e : ((vs.length + 1 : Nat) : Int) = ((ws.length + 1 : Nat) : Int) := e
        have el : ts.length = rs.length := by omega
        walk_at "ri"
        refine ifNeS (fun e1 => ?_) (fun e1 => ?_)
        · walk_at "rd"
          refine q _ H (Same.refl _) ⟨(fun z => nomatch z), fun z => ?_⟩
          injection z with z _
          exact absurd z e1
        · subst e1
          have hz : 1 + Tm.szs ts ≤ 100000 := hz
          have hll := Tm.len_le ts
          walk_at "rd"
          refine ⟨1, _, rfl, ⟨by decide, by decide, ?_, ?_⟩, ?_⟩
          · show -(2 ^ 62) ≤ ((vs.length + 1 : Nat) : Int); omega
          · show ((vs.length + 1 : Nat) : Int) < 2 ^ 62; omega
          have en : (((V.str f :: vs).length : Int) - 1).toNat = ts.length := by
            show (((vs.length + 1 : Nat) : Int) - 1).toNat = _
            omega
          rw [en]
          refine for_range (lo := 1) (n := ts.length) (fun i σ' H' => ∃ x, σ' = [some (.ref a), some (.ref b), x] ∧ Same H H' ∧ ts.take i = rs.take i) ?_ ?_ ?_
          · exact ⟨none, rfl, Same.refl _, rfl⟩
          · rintro i σ' H' hi ⟨x, rfl, s, ei⟩
            obtain ⟨v1, gv1, hv1⟩ := hts.get' (List.getElem?_eq_getElem hi)
            obtain ⟨v2, gv2, hv2⟩ := hrs.get' (List.getElem?_eq_getElem (l := rs) (i := i) (by omega))
            have mt : ts[i] ∈ ts := List.getElem_mem hi
            have := Tm.sz_arg mt
            have e1 : (1 : Int) + (i : Int) = ((i + 1 : Nat) : Int) := by omega
            have gt1 : atI (V.str f :: vs) ((1 : Int) + (i : Int)) = some v1 := by rw [e1]; exact atI_nat (j := i + 1) (by rw [List.getElem?_cons_succ]; exact gv1)
            have gt2 : atI (V.str f :: ws) ((1 : Int) + (i : Int)) = some v2 := by rw [e1]; exact atI_nat (j := i + 1) (by rw [List.getElem?_cons_succ]; exact gv2)
            replace ha := s _ _ ha
            replace hb := s _ _ hb
            walk_at "rd"
            refine ⟨v1, v2, _, _, rfl, hv1.tu (tu_same s), hv2.tu (tu_same s), by omega, TmIn.dep_arg hd mt, fun b1 H1 s1 hb1 => ?_⟩
            walk_at "rd"
            refine ifNB (fun z => ?_) (fun z => ?_)
            · walk_at "rd"
              refine q _ H1 (s.trans s1) ⟨(fun w => nomatch w), fun w => ?_⟩
              injection w with _ w
              subst w
              rw [z] at hb1
              exact nomatch hb1.mpr rfl
            · refine ⟨_, rfl, s.trans s1, ?_⟩
              have := hb1.mp z
              rw [list_take_succ (List.getElem?_eq_getElem hi), list_take_succ (List.getElem?_eq_getElem (l := rs) (i := i) (by omega)), ei, this]
          · rintro σ' H' ⟨x, rfl, s, ei⟩
            walk_at "rd"
            refine q _ H' s ⟨fun _ => ?_, fun _ => rfl⟩
            rw [List.take_length, el, List.take_length] at ei
            rw [ei]

theorem all_u_law_same (T : Tx K mg A) : ∀ N : Nat, FnOk P w K mg base CX0 (N + 1) A.a_u_law_same A.d_u_law_same ["first", "second"] (sp_u_law_same N)
  | 0 => fn_none fun vs H Q E h => by obtain ⟨v, u, t, r, _, _, _, _, hd, _⟩ := h; have := t.dep_pos; omega
  | N + 1 => st_u_law_same T N (all_u_law_same T N)
theorem ok_u_law_same (T : Tx K mg A) : FnOk P w K mg base CX0 61 A.a_u_law_same A.d_u_law_same ["first", "second"] (sp_u_law_same 60) := all_u_law_same T 60

/-! _law_tells -/
def sp_u_law_tells : Sp := fun vs H Q _ => ∃ (a b : Bool), vs = [.bl a, .bl b] ∧ Q (.bl (a == b)) H
theorem ok_u_law_tells (T : Tx K mg A) : FnOk P w K mg base CX0 (1) A.a_u_law_tells A.d_u_law_tells ["actual", "due"] sp_u_law_tells := by

  refine T.F_u_law_tells.ok sc_u_law_tells (fun vs H Q E h => ?_) (fun cdv Ar outer s0 H vs Q E hr h => ?_)
  · obtain ⟨a, b, rfl, _⟩ := h; rfl
  obtain ⟨a, b, rfl, q⟩ := h
  refine ⟨_, (pss_cons (ps_if (pt_val (pv 1)) (pss_one (ps_ret (pe_cmpR op_isBl (pv 0) pe_bl (nomark _)))) pss_nil)
    (pss_one (ps_ret (pe_cmpR op_isBl (pv 0) pe_bl (nomark _))))), ?_⟩
  cases a <;> cases b
  · walk_at "rd"
    exact q
  · walk_at "rd"
    exact q
  · walk_at "rd"
    exact q
  · walk_at "rd"
    exact q

/-! _law_positions -/
def sp_u_law_positions (N : Nat) : Sp := fun vs H Q _ => ∃ (v : V) (t : Tm), vs = [v] ∧ TmIn H t v ∧ t.sz ≤ 100000 ∧ t.dep ≤ N ∧ ∀ p H', Same H H' → H p = none → PosIn H' p (poss t) → Q (.ref p) H'
theorem st_u_law_positions (T : Tx K mg A) (N : Nat) (G_u_law_positions : FnOk P w K mg base CX0 (N + 1) A.a_u_law_positions A.d_u_law_positions ["term"] (sp_u_law_positions N)) : FnOk P w K mg base CX0 (N + 2) A.a_u_law_positions A.d_u_law_positions ["term"] (sp_u_law_positions (N + 1)) := by

  refine T.F_u_law_positions.ok sc_u_law_positions (fun vs H Q E h => ?_) (fun cdv Ar outer s0 H vs Q E hr h => ?_)
  · obtain ⟨v, t, rfl, _⟩ := h; rfl
  obtain ⟨v, t, rfl, ht, hz, hd, q⟩ := h
  refine ⟨_, (pss_cons (ps_set (i := 1) sc_u_law_positions.nd rfl (Or.inl rfl) (pe_lst (pa_cons (pe_tup pa_nil) pa_nil)))
    (pss_cons (ps_if (pt_val (pe_callB (r := rIsi K) call_isi (by rfl) T.n_isinstance boot_isinstance (pa_cons (pv 0) (pa_cons (pe_bltn (v := .ty "int") (by rfl) T.n_int boot_int rfl) pa_nil)))) (pss_one (ps_ret (pv 1))) pss_nil)
    (pss_cons (ps_for PassesOwn.never rfl (pi_range2 rfl T.n_range (pa_cons pe_int (pa_cons (pe_callB (r := rLenS K) j_len (by rfl) T.n_len PySem.boot_len (pa_cons (pv 0) pa_nil)) pa_nil))) (pg_name (i := 2) sc_u_law_positions.nd rfl (Or.inl rfl)) (pss_one (ps_for PassesOwn.never rfl (pi_list (pe_call G_u_law_positions (hr.mono (by omega)) rfl T.m_u_law_positions T.F_u_law_positions.kp T.b_u_law_positions .nil pass0 (pa_cons (pe_ix (r := rIxT K) ix_tup (pv 0) (pv 2) (fun _ _ => rfl)) pa_nil))) (pg_name (i := 3) sc_u_law_positions.nd rfl (Or.inl rfl)) (pss_one (ps_expr (pe_bm PySem.F.plainAttrs_list PySem.F.slot_list_append PySem.F.type_list_append mt_append (pv 1) (pa_cons (pe_op (r := rCatT K) op_catT (pe_tup (pa_cons (pv 2) pa_nil)) (pv 3)) pa_nil)))))))
    (pss_one (ps_ret (pv 1)))))), ?_⟩
  walk_at "rd"
  refine ⟨by show 0 ≤ sizeLine; decide, ?_⟩
  first | intro e n1 | refine fun e n1 => ?_
  generalize ehn : upd H e _ = H1
  have s1 := J.al_same n1 ehn
  have h1 := J.al_at ehn
  clear ehn
  refine ⟨by show 1 ≤ sizeLine; decide, ?_⟩
  first | intro p n2 | refine fun p n2 => ?_
  generalize ehn : upd H1 p _ = H2
  have s2 := J.al_same n2 ehn
  have h2 := J.al_at ehn
  clear ehn
  have hp0 : PosIn H2 p [[]] := ⟨[e], h2, rfl, fun k a r ea er => by
    have hk : k < 1 := (List.getElem?_eq_some_iff.mp ea).1
    have : k = 0 := by omega
    subst this
    cases ea; cases er
    exact s2 _ _ h1⟩
  have np0 : H p = none := s1.free n2
  cases t with
  | var n =>
    cases (show v = .int n from ht)
    walk_at "ri"
    exact q p H2 (s1.trans s2) np0 hp0
  | app f ts =>
    obtain ⟨a, vs, rfl, ha, hts⟩ := ht
    have hvl := hts.length
    have hz : 1 + Tm.szs ts ≤ 100000 := hz
    have hll := Tm.len_le ts
    have ha2 := s2 _ _ (s1 _ _ ha)
    have hts2 := (hts.tu (tu_same s1)).tu (tu_same s2)
    walk_at "ri"
    refine ⟨1, _, rfl, ⟨by decide, by decide, ?_, ?_⟩, ?_⟩
    · show -(2 ^ 62) ≤ ((vs.length + 1 : Nat) : Int); omega
    · show ((vs.length + 1 : Nat) : Int) < 2 ^ 62; omega
    have en : (((V.str f :: vs).length : Int) - 1).toNat = ts.length := by
      show (((vs.length + 1 : Nat) : Int) - 1).toNat = _
      omega
    rw [en]
    refine for_range (lo := 1) (n := ts.length) (fun i σ' H' => ∃ x y, σ' = [some (.ref a), some (.ref p), x, y] ∧ But p H2 H' ∧ PosIn H' p ([] :: posss 1 (ts.take i))) ?_ ?_ ?_
    · exact ⟨none, none, rfl, But.refl _ _, hp0⟩
    · rintro i σ' H' hi ⟨x, y, rfl, b, hp⟩
      have gt := List.getElem?_eq_getElem hi
      obtain ⟨v1, gv1, hv1⟩ := hts2.get' gt
      have mt : ts[i] ∈ ts := List.getElem_mem hi
      have hst := Tm.sz_arg mt
      have tub : Tu H2 H' := but_tu b (lst_not_tup h2)
      have e1 : (1 : Int) + (i : Int) = ((i + 1 : Nat) : Int) := by omega
      have gt1 : atI (V.str f :: vs) ((1 : Int) + (i : Int)) = some v1 := by rw [e1]; exact atI_nat (j := i + 1) (by rw [List.getElem?_cons_succ]; exact gv1)
      have ha3 := tub _ _ ha2
      walk_at "rd"
      refine ⟨v1, ts[i], rfl, hv1.tu tub, by omega, TmIn.dep_arg hd mt, fun p3 H3 s3 n3 hp3 => ?_⟩
      have hpp := hp.same s3
      have n33 : p3 ≠ p := fun z => by
        obtain ⟨as, e, _⟩ := hp
        rw [z, e] at n3; cases n3
      obtain ⟨as3, g3, l3, f3⟩ := hp3
      refine ⟨_, rfl, ⟨_, SqL.of g3⟩, for_list (K := K) (a := p3) (xs := as3.map V.ref) (fun j σ' H'' => ∃ y, σ' = [some (.ref a), some (.ref p), some (.int (1 + (i : Int))), y] ∧ But p H3 H'' ∧ PosIn H'' p ([] :: posss 1 (ts.take i) ++ ((poss ts[i]).take j).map (fun q => (1 + (i : Int)) :: q))) ?_ ?_ ?_ ?_⟩
      · exact ⟨_, rfl, But.refl _ _, by rw [List.take_zero, List.map_nil, List.append_nil]; exact hpp⟩
      · rintro j σ' H'' hj ⟨y, rfl, b4, hp4⟩
        exact SqL.of (b4 _ _ g3 n33)
      · rintro j y2 σ' H'' hj ⟨y, rfl, b4, hp4⟩
        have hj' : j < as3.length := by
          have := (List.getElem?_eq_some_iff.mp hj).1
          rw [List.length_map] at this; exact this
        have gj := List.getElem?_eq_getElem (l := poss ts[i]) (i := j) (by omega)
        have ej : y2 = .ref as3[j] := by
          rw [List.getElem?_map, List.getElem?_eq_getElem hj'] at hj
          exact (Option.some.inj hj).symm
        subst ej
        have hin := f3 j _ _ (List.getElem?_eq_getElem hj') gj
        have npl : ∀ xs, H3 p ≠ some (.tup xs) := by
          obtain ⟨as, e, _⟩ := hpp
          exact lst_not_tup e
        have tu4 : Tu H3 H'' := but_tu b4 npl
        obtain ⟨as4, g4, l4, f4⟩ := hp4
        walk_at "rd"
        refine ⟨.inl ⟨rfl, _, SqL.of g4⟩, ?_⟩
        walk_at "rd"
        refine ⟨by show 1 ≤ sizeLine; decide, ?_⟩
        first | intro t1 n5 | refine fun t1 n5 => ?_
        generalize ehn : upd H'' t1 _ = H5
        have s5 := J.al_same n5 ehn
        have h5 := J.al_at ehn
        clear ehn
        have hin5 := s5 _ _ (tu4 _ _ hin)
        walk_at "rd"
        have hq := (poss_is _ _ (List.mem_of_getElem? gj)).2
        have hdt := TmIn.dep_arg hd mt
        have lens : as4.length ≤ 100001 := by
          rw [l4, List.length_append, List.length_map, List.length_take, List.length_cons, posss_len]
          have h1 := szs_take ts i
          have h2 := poss_len ts[i]
          have h3 : Tm.szs (ts.take i) + ts[i].sz ≤ Tm.szs ts := by
            have := szs_take ts (i + 1)
            rw [list_take_succ gt, szs_app] at this
            have e : Tm.szs [ts[i]] = ts[i].sz := by show ts[i].sz + 0 = _; omega
            omega
          omega
        have e2 : (poss ts[i]).take (j + 1) = (poss ts[i]).take j ++ [(poss ts[i])[j]] := list_take_succ gj
        have fin : ∀ (b0 : Addr) (H6 : Hp), Same H'' H6 → H6 b0 = some (.tup (((1 + (i : Int)) :: (poss ts[i])[j]).map V.int)) → PosIn (upd H6 p (.lst (as4.map V.ref ++ [.ref b0]))) p ([] :: posss 1 (ts.take i) ++ ((poss ts[i]).take (j + 1)).map (fun q => (1 + (i : Int)) :: q)) := by
          intro b0 H6 s6 h6
          have hp6 := s6 _ _ g4
          rw [e2, List.map_append, ← List.append_assoc]
          refine PosIn.push (as := as4) g4 l4 f4 ((tu_same s6).trans (tu_upd (lst_not_tup hp6))) upd_same ?_
          rw [upd_ne fun z => by rw [z, hp6] at h6; cases h6]
          exact h6
        refine ⟨t1, _, _, _, rfl, rfl, SqT.of h5, SqT.of hin5, List.cons_ne_nil _ _, ?_, fun z => ?_, fun _ => ?_⟩
        · rw [List.length_map]
          show 0 + 1 + _ ≤ _
          have hN : ts[i].dep ≤ 100000 := by have := Tm.dep_le_sz ts[i]; omega
          exact Nat.le_trans (show 0 + 1 + (poss ts[i])[j].length ≤ 100001 by omega) (by decide)
        · have z : (poss ts[i])[j] = [] := List.map_eq_nil_iff.mp z
          refine ⟨p, _, _, rfl, rfl, s5 _ _ g4, by rw [List.length_map]; exact Nat.lt_of_le_of_lt lens (by decide), _, rfl, b4.trans ((but_same s5).trans (but_upd _)), fin t1 H5 s5 ?_⟩
          rw [z]; exact h5
        · first | intro t2 n6 | refine fun t2 n6 => ?_
          generalize ehn : upd H5 t2 _ = H6
          have s6 := J.al_same n6 ehn
          have h6 := J.al_at ehn
          clear ehn
          exact ⟨p, _, _, rfl, rfl, s6 _ _ (s5 _ _ g4), by rw [List.length_map]; exact Nat.lt_of_le_of_lt lens (by decide), _, rfl, b4.trans ((but_same s5).trans ((but_same s6).trans (but_upd _))), fin t2 H6 (s5.trans s6) h6⟩
      · rintro σ' H'' ⟨y, rfl, b4, hp4⟩
        rw [List.length_map, l3, List.take_length] at hp4
        refine ⟨_, _, rfl, b.trans ((but_same s3).trans b4), ?_⟩
        rw [list_take_succ gt, posss_app, List.length_take, Nat.min_eq_left (by omega)]
        show PosIn H'' p ([] :: (posss 1 (ts.take i) ++ ((poss ts[i]).map (fun q => (((1 + i : Nat) : Int)) :: q) ++ [])))
        rw [List.append_nil, show (((1 + i : Nat) : Int)) = 1 + (i : Int) by omega]
        exact hp4
    · rintro σ' H' ⟨x, y, rfl, b, hp⟩
      rw [List.take_length] at hp
      walk_at "rd"
      exact q p H' (b.same (s1.trans s2) np0) np0 hp

theorem all_u_law_positions (T : Tx K mg A) : ∀ N : Nat, FnOk P w K mg base CX0 (N + 1) A.a_u_law_positions A.d_u_law_positions ["term"] (sp_u_law_positions N)
  | 0 => fn_none fun vs H Q E h => by obtain ⟨v, t, _, _, _, hd, _⟩ := h; have := t.dep_pos; omega
  | N + 1 => st_u_law_positions T N (all_u_law_positions T N)
theorem ok_u_law_positions (T : Tx K mg A) : FnOk P w K mg base CX0 61 A.a_u_law_positions A.d_u_law_positions ["term"] (sp_u_law_positions 60) := all_u_law_positions T 60

/-! _law_subterm -/
def sp_u_law_subterm : Sp := fun vs H Q _ => ∃ (v : V) (t u : Tm) (a : Addr) (q : List Int), vs = [v, .ref a] ∧ TmIn H t v ∧ H a = some (.tup (q.map V.int)) ∧ at? q t = some u ∧ ∀ r H', Same H H' → TmIn H' u r → Q r H'
theorem ok_u_law_subterm (T : Tx K mg A) : FnOk P w K mg base CX0 (1) A.a_u_law_subterm A.d_u_law_subterm ["term", "position"] sp_u_law_subterm := by

  refine T.F_u_law_subterm.ok sc_u_law_subterm (fun vs H Q E h => ?_) (fun cdv Ar outer s0 H vs Q E hr h => ?_)
  · obtain ⟨v, t, u, a, q, rfl, _⟩ := h; rfl
  obtain ⟨v, t, u, a, q, rfl, ht, hq, hu', q0⟩ := h
  refine ⟨_, (pss_cons (ps_for PassesOwn.never rfl (pi_tup (pv 1)) (pg_name (i := 2) sc_u_law_subterm.nd rfl (Or.inl rfl)) (pss_one (ps_set (i := 0) sc_u_law_subterm.nd rfl (Or.inl rfl) (pe_ix (r := rIxT K) ix_tup (pv 0) (pv 2) (fun _ _ => rfl)))))
    (pss_one (ps_ret (pv 0)))), ?_⟩
  refine ⟨_, rfl, ?_⟩
  refine ⟨_, rfl, ⟨_, SqT.of hq⟩, for_tup (xs := q.map V.int) (fun i σ' H' => ∃ v1 t1 x, σ' = [some v1, some (.ref a), x] ∧ at? (q.take i) t = some t1 ∧ TmIn H' t1 v1 ∧ Same H H') ?_ ?_ ?_ ?_⟩
  · exact ⟨v, t, none, rfl, rfl, ht, Same.refl _⟩
  · rintro i σ' H' hi ⟨v1, t1, x, rfl, h1, h2, s1⟩
    exact SqT.of (s1 _ _ hq)
  · rintro i y σ' H' hi ⟨v1, t1, x, rfl, h1, h2, s1⟩
    obtain ⟨k, gk, rfl⟩ := map_get hi
    have hi' : i < q.length := (List.getElem?_eq_some_iff.mp gk).1
    obtain ⟨w, hw⟩ := isPos_take ((isPos_at q t).mpr ⟨u, hu'⟩) (i + 1)
    have hw' := hw
    rw [at_step gk h1] at hw'
    obtain ⟨f, ts, c, rfl, k1, k2⟩ := isPos_one.mp ((isPos_at [k] t1).mpr ⟨w, hw'⟩)
    rw [at_cons_app, if_pos k1, k2] at hw'
    cases (show some c = some w from hw')
    obtain ⟨b, vs, rfl, hb, hts⟩ := h2
    obtain ⟨v2, gv2, hv2⟩ := hts.get' k2
    obtain ⟨j, rfl⟩ : ∃ j : Nat, k = ((j + 1 : Nat) : Int) := ⟨(k - 1).toNat, by omega⟩
    have ej : (((j + 1 : Nat) : Int) - 1).toNat = j := by omega
    rw [ej] at gv2
    walk_at "rd"
    refine ⟨b, _, _, v2, rfl, rfl, SqT.of hb, atI_nat (j := j + 1) (by rw [List.getElem?_cons_succ]; exact gv2), ?_⟩
    exact ⟨_, _, _, rfl, hw, hv2, s1⟩
  · rintro σ' H' ⟨v1, t1, x, rfl, h1, h2, s1⟩
    rw [List.length_map, List.take_length, hu'] at h1
    cases h1
    walk_at "rd"
    exact q0 _ _ s1 h2

/-! _law_replace -/
def sp_u_law_replace (N : Nat) : Sp := fun vs H Q _ => ∃ (v w : V) (t u : Tm) (a : Addr) (q : List Int), vs = [v, .ref a, w] ∧ TmIn H t v ∧ TmIn H u w ∧ H a = some (.tup (q.map V.int)) ∧ IsPos q t ∧ q.length < N ∧ t.sz ≤ 100000 ∧ ∀ r H', Same H H' → TmIn H' (rep u q t) r → Q r H'
theorem st_u_law_replace (T : Tx K mg A) (N : Nat) (G_u_law_replace : FnOk P w K mg base CX0 (N + 1) A.a_u_law_replace A.d_u_law_replace ["term", "position", "new"] (sp_u_law_replace N)) : FnOk P w K mg base CX0 (N + 2) A.a_u_law_replace A.d_u_law_replace ["term", "position", "new"] (sp_u_law_replace (N + 1)) := by

  refine T.F_u_law_replace.ok sc_u_law_replace (fun vs H Q E h => ?_) (fun cdv Ar outer s0 H vs Q E hr h => ?_)
  · obtain ⟨v, w, t, u, a, q, rfl, _⟩ := h; rfl
  obtain ⟨v, w, t, u, a, q, rfl, ht, hu', hq, ip, hl, hz, q0⟩ := h
  refine ⟨_, (pss_cons (ps_if (pt_cmpR op_eq (pe_callB (r := rLenS K) j_len (by rfl) T.n_len PySem.boot_len (pa_cons (pv 1) pa_nil)) pe_int (nomark _)) (pss_one (ps_ret (pv 2))) pss_nil)
    (pss_cons (ps_set (i := 3) sc_u_law_replace.nd rfl (Or.inl rfl) (pe_ix (r := rIxT K) ix_tup (pv 1) pe_int (fun _ _ => rfl)))
    (pss_one (ps_ret (pe_op (r := rCatT K) op_catT (pe_op (r := rCatT K) op_catT (pe_slice (r := rSlT K) sl_tup (pv 0) po_none (po_some (pv 3))) (pe_tup (pa_cons (pe_call G_u_law_replace (hr.mono (by omega)) rfl T.m_u_law_replace T.F_u_law_replace.kp T.b_u_law_replace .nil pass0 (pa_cons (pe_ix (r := rIxT K) ix_tup (pv 0) (pv 3) (fun _ _ => rfl)) (pa_cons (pe_slice (r := rSlT K) sl_tup (pv 1) (po_some pe_int) po_none) (pa_cons (pv 2) pa_nil)))) pa_nil))) (pe_slice (r := rSlT K) sl_tup (pv 0) (po_some (pe_op op_add (pv 3) pe_int)) po_none)))))), ?_⟩
  cases q with
  | nil =>
    walk_at "ri"
    exact q0 w H (Same.refl _) hu'
  | cons k q =>
    cases t with
    | var n => exact ip.elim
    | app f ts =>
      obtain ⟨hk1, t, gt, ip⟩ := ip
      obtain ⟨b, vs, rfl, hb, hts⟩ := ht
      obtain ⟨j, rfl⟩ : ∃ j : Nat, k = ((j + 1 : Nat) : Int) := ⟨(k - 1).toNat, by omega⟩
      have ej : (((j + 1 : Nat) : Int) - 1).toNat = j := by omega
      rw [ej] at gt
      have hj : j < ts.length := (List.getElem?_eq_some_iff.mp gt).1
      obtain ⟨v1, gv1, hv1⟩ := hts.get' gt
      have hvl := hts.length
      have hll := Tm.len_le ts
      have hz : 1 + Tm.szs ts ≤ 100000 := hz
      have hst := Tm.sz_arg (List.mem_of_getElem? gt)
      have hq' : H a = some (.tup (.int ((j + 1 : Nat) : Int) :: q.map V.int)) := hq
      walk_at "ri"
      refine ⟨b, _, rfl, SqT.of hb, notLo (k := j + 1) (by rw [List.length_cons]; omega), ?_⟩
      rw [cutLo]
      first | intro p1 n1 | refine fun p1 n1 => ?_
      generalize ehn : upd H p1 _ = H1
      have s1 := J.al_same n1 ehn
      have h1 := J.al_at ehn
      clear ehn
      replace hb := s1 _ _ hb
      have hq1 := s1 _ _ hq'
      walk_at "rd"
      refine ⟨b, _, _, v1, rfl, rfl, SqT.of hb, atI_nat (j := j + 1) (by rw [List.getElem?_cons_succ]; exact gv1), ?_⟩
      walk_at "rd"
      walk_at "sl1"
      first | intro p2 n2 | refine fun p2 n2 => ?_
      generalize ehn : upd H1 p2 _ = H2
      have s2 := J.al_same n2 ehn
      have h2 := J.al_at ehn
      clear ehn
      walk_at "rd"
      have tu2 := tu_same (s1.trans s2)
      refine ⟨v1, w, t, u, p2, q, rfl, hv1.tu tu2, hu'.tu tu2, h2, ip, by rw [List.length_cons] at hl; omega, by omega, fun r H3 s3 hr3 => ?_⟩
      refine ⟨by show 1 ≤ sizeLine; decide, ?_⟩
      first | intro p3 n4 | refine fun p3 n4 => ?_
      generalize ehn : upd H3 p3 _ = H4
      have s4 := J.al_same n4 ehn
      have h4 := J.al_at ehn
      clear ehn
      have tu24 := tu_same (s3.trans s4)
      have h14 := tu24 _ _ (s2 _ _ h1)
      have hb4 := tu24 _ _ (s2 _ _ hb)
      have e1 : (V.str f :: vs).take (j + 1) = .str f :: vs.take j := rfl
      rw [e1] at h14
      refine ⟨p1, p3, _, _, rfl, rfl, SqT.of h14, SqT.of h4, List.cons_ne_nil _ _, ?_, fun z => absurd z (List.cons_ne_nil _ _), fun _ => ?_⟩
      · rw [List.length_cons, List.length_take]
        exact Nat.le_trans (show min j vs.length + 1 + 1 ≤ 100002 by omega) (by decide)
      first | intro p5 n5 | refine fun p5 n5 => ?_
      generalize ehn : upd H4 p5 _ = H5
      have s5 := J.al_same n5 ehn
      have h5 := J.al_at ehn
      clear ehn
      replace hb4 := s5 _ _ hb4
      walk_at "rd"
      have e3 : ((((j + 1 : Nat) : Int)) + 1) = ((j + 2 : Nat) : Int) := by omega
      rw [e3]
      refine ⟨b, _, rfl, SqT.of hb4, notHi (k := j + 2) (by omega) (by rw [List.length_cons]; omega), ?_⟩
      rw [cutHi]
      have e2 : (V.str f :: vs).drop (j + 2) = vs.drop (j + 1) := rfl
      rw [e2]
      first | intro p6 n6 | refine fun p6 n6 => ?_
      generalize ehn : upd H5 p6 _ = H6
      have s6 := J.al_same n6 ehn
      have h6 := J.al_at ehn
      clear ehn
      have tuF : Tu H H4 := tu2.trans tu24
      have h56 := s6 _ _ h5
      have key : ∀ (b0 : Addr) (H7 : Hp), Same H6 H7 → H7 b0 = some (.tup ((.str f :: vs.take j ++ [r]) ++ vs.drop (j + 1))) → Q (.ref b0) H7 := by
        intro b0 H7 s7 h7
        have s47 : Same H4 H7 := s5.trans (s6.trans s7)
        have tu47 := tu_same s47
        refine q0 _ H7 (s1.trans (s2.trans (s3.trans (s4.trans s47)))) ?_
        have er : rep u (((j + 1 : Nat) : Int) :: q) (.app f ts) = .app f (ts.take j ++ [rep u q t] ++ ts.drop (j + 1)) := by
          show Tm.app f (ts.set (((j + 1 : Nat) : Int) - 1).toNat (rep u q (ts.getD (((j + 1 : Nat) : Int) - 1).toNat u))) = _
          rw [ej, List.getD_eq_getElem?_getD, gt, set_cut hj]; rfl
        rw [er]
        refine ⟨b0, vs.take j ++ [r] ++ vs.drop (j + 1), rfl, h7, ?_⟩
        have tu07 := tuF.trans tu47
        exact ((((hts.take j).tu tu07).append (TmsIn.one ((hr3.tu (tu_same s4)).tu tu47)))).append ((hts.drop (j + 1)).tu tu07)
      refine ⟨p5, p6, _, _, rfl, rfl, SqT.of h56, SqT.of h6, List.cons_ne_nil _ _, ?_, fun z => ?_, fun _ => ?_⟩
      · show (V.str f :: vs.take j ++ [r]).length + _ ≤ _
        rw [List.length_append, List.length_cons, List.length_take, List.length_drop]
        exact Nat.le_trans (show min j vs.length + 1 + 1 + (vs.length - (j + 1)) ≤ 200004 by omega) (by decide)
      · refine key p5 H6 (Same.refl _) ?_
        rw [z, List.append_nil]; exact h56
      · first | intro p7 n7 | refine fun p7 n7 => ?_
        generalize ehn : upd H6 p7 _ = H7
        have s7 := J.al_same n7 ehn
        have h7 := J.al_at ehn
        clear ehn
        exact key p7 H7 s7 h7

theorem all_u_law_replace (T : Tx K mg A) : ∀ N : Nat, FnOk P w K mg base CX0 (N + 1) A.a_u_law_replace A.d_u_law_replace ["term", "position", "new"] (sp_u_law_replace N)
  | 0 => fn_none fun vs H Q E h => by obtain ⟨v, w, t, u, a, q, _, _, _, _, _, hl, _⟩ := h; omega
  | N + 1 => st_u_law_replace T N (all_u_law_replace T N)
theorem ok_u_law_replace (T : Tx K mg A) : FnOk P w K mg base CX0 61 A.a_u_law_replace A.d_u_law_replace ["term", "position", "new"] (sp_u_law_replace 60) := all_u_law_replace T 60

/-! _law_moved -/
def sp_u_law_moved : Sp := fun vs H Q _ => ∃ (s l q : Addr) (nl fs : List Str) (cm : Str → Bool) (B : Int) (v : V) (t : Tm), vs = [.ref s, .ref q, v] ∧ St H s l ∧ q ≠ s ∧ H q = some (.lst (nl.map V.str)) ∧ (∀ f, cm f = decide (f ∈ nl)) ∧ fs.Nodup ∧ fs.length ≤ 6 ∧ (∀ (k : Nat) (f : Str), fs[k]? = some f → cm f = true → ar k = 2) ∧ TmIn H t v ∧ t.wf fs B ∧ t.sz ≤ 1000 ∧ t.dep ≤ 60 ∧
  ∀ v' u H', But s H H' → St H' s l → TmIn H' u v' → Mv cm fs B t u → Q v' H'
theorem ok_u_law_moved (T : Tx K mg A) : FnOk P w K mg base CX0 (70) A.a_u_law_moved A.d_u_law_moved ["state", "names", "term"] sp_u_law_moved := by
  have G_u_law_draw := ok_u_law_draw (P := P) (w := w) (base := base) T
  have G_u_law_positions := ok_u_law_positions (P := P) (w := w) (base := base) T
  have G_u_law_replace := ok_u_law_replace (P := P) (w := w) (base := base) T
  have G_u_law_subterm := ok_u_law_subterm (P := P) (w := w) (base := base) T
  refine T.F_u_law_moved.ok sc_u_law_moved (fun vs H Q E h => ?_) (fun cdv Ar outer s0 H vs Q E hr h => ?_)
  · obtain ⟨s, l, q, nl, fs, cm, B, v, t, rfl, _⟩ := h; rfl
  obtain ⟨s, l, qn, nl, fs, cm, B, v, t, rfl, st, qs, hq, hcm, nd, h6, two, ht, wt, zt, dt, q0⟩ := h
  refine ⟨_, (pss_cons (ps_set (i := 3) sc_u_law_moved.nd rfl (Or.inl rfl) (pe_call G_u_law_positions (hr.mono (by omega)) rfl T.m_u_law_positions T.F_u_law_positions.kp T.b_u_law_positions .nil pass0 (pa_cons (pv 2) pa_nil)))
    (pss_cons (ps_set (i := 4) sc_u_law_moved.nd rfl (Or.inl rfl) (pe_ix (r := rIxL K) ix_list (pv 3) (pe_call G_u_law_draw (hr.mono (by omega)) rfl T.m_u_law_draw T.F_u_law_draw.kp T.b_u_law_draw .nil pass0 (pa_cons (pv 0) (pa_cons (pe_callB (r := rLenS K) j_len (by rfl) T.n_len PySem.boot_len (pa_cons (pv 3) pa_nil)) pa_nil))) (fun _ _ => rfl)))
    (pss_cons (ps_set (i := 5) sc_u_law_moved.nd rfl (Or.inl rfl) (pe_call G_u_law_subterm (hr.mono (by omega)) rfl T.m_u_law_subterm T.F_u_law_subterm.kp T.b_u_law_subterm .nil pass0 (pa_cons (pv 2) (pa_cons (pv 4) pa_nil))))
    (pss_cons (ps_if (PW.pt (pw_or (pt_val (pe_callB (r := rIsi K) call_isi (by rfl) T.n_isinstance boot_isinstance (pa_cons (pv 5) (pa_cons (pe_bltn (v := .ty "int") (by rfl) T.n_int boot_int rfl) pa_nil)))) (pw_or1 (pt_cmpR (r := rIn K true) op_notIn_seq (pe_ix (r := rIxT K) ix_tup (pv 5) pe_int (fun _ _ => rfl)) (pv 1) rfl)))) (pss_one (ps_ret (pv 2))) pss_nil)
    (pss_cons (ps_set (i := 6) sc_u_law_moved.nd rfl (Or.inl rfl) (pe_call G_u_law_draw (hr.mono (by omega)) rfl T.m_u_law_draw T.F_u_law_draw.kp T.b_u_law_draw .nil pass0 (pa_cons (pv 0) (pa_cons pe_int pa_nil))))
    (pss_cons (ps_par (i := 7) (j := 8) (by rfl) sc_u_law_moved.nd rfl rfl (by decide) rfl rfl (pa_cons (pe_ix (r := rIxT K) ix_tup (pv 5) pe_int (fun _ _ => rfl)) (pa_cons (pe_ix (r := rIxT K) ix_tup (pv 5) pe_int (fun _ _ => rfl)) pa_nil)) rfl)
    (pss_cons (ps_if (pt_cmpR op_eq (pv 6) pe_int (nomark _)) (pss_one (ps_set (i := 5) sc_u_law_moved.nd rfl (Or.inl rfl) (pe_tup (pa_cons (pe_ix (r := rIxT K) ix_tup (pv 5) pe_int (fun _ _ => rfl)) (pa_cons (pv 8) (pa_cons (pv 7) pa_nil)))))) (pss_one (ps_if (PW.pt (pw_and (pt_cmpR op_eq (pv 6) pe_int (nomark _)) (pw_and (pt_not (pt_val (pe_callB (r := rIsi K) call_isi (by rfl) T.n_isinstance boot_isinstance (pa_cons (pv 7) (pa_cons (pe_bltn (v := .ty "int") (by rfl) T.n_int boot_int rfl) pa_nil))))) (pw_and1 (pt_cmpR op_eq (pe_ix (r := rIxT K) ix_tup (pv 7) pe_int (fun _ _ => rfl)) (pe_ix (r := rIxT K) ix_tup (pv 5) pe_int (fun _ _ => rfl)) (nomark _)))))) (pss_one (ps_set (i := 5) sc_u_law_moved.nd rfl (Or.inl rfl) (pe_tup (pa_cons (pe_ix (r := rIxT K) ix_tup (pv 5) pe_int (fun _ _ => rfl)) (pa_cons (pe_ix (r := rIxT K) ix_tup (pv 7) pe_int (fun _ _ => rfl)) (pa_cons (pe_tup (pa_cons (pe_ix (r := rIxT K) ix_tup (pv 5) pe_int (fun _ _ => rfl)) (pa_cons (pe_ix (r := rIxT K) ix_tup (pv 7) pe_int (fun _ _ => rfl)) (pa_cons (pv 8) pa_nil)))) pa_nil)))))) (pss_one (ps_if (PW.pt (pw_and (pt_not (pt_val (pe_callB (r := rIsi K) call_isi (by rfl) T.n_isinstance boot_isinstance (pa_cons (pv 8) (pa_cons (pe_bltn (v := .ty "int") (by rfl) T.n_int boot_int rfl) pa_nil))))) (pw_and1 (pt_cmpR op_eq (pe_ix (r := rIxT K) ix_tup (pv 8) pe_int (fun _ _ => rfl)) (pe_ix (r := rIxT K) ix_tup (pv 5) pe_int (fun _ _ => rfl)) (nomark _))))) (pss_one (ps_set (i := 5) sc_u_law_moved.nd rfl (Or.inl rfl) (pe_tup (pa_cons (pe_ix (r := rIxT K) ix_tup (pv 5) pe_int (fun _ _ => rfl)) (pa_cons (pe_tup (pa_cons (pe_ix (r := rIxT K) ix_tup (pv 5) pe_int (fun _ _ => rfl)) (pa_cons (pv 7) (pa_cons (pe_ix (r := rIxT K) ix_tup (pv 8) pe_int (fun _ _ => rfl)) pa_nil)))) (pa_cons (pe_ix (r := rIxT K) ix_tup (pv 8) pe_int (fun _ _ => rfl)) pa_nil)))))) pss_nil)))))
    (pss_one (ps_ret (pe_call G_u_law_replace (hr.mono (by omega)) rfl T.m_u_law_replace T.F_u_law_replace.kp T.b_u_law_replace .nil pass0 (pa_cons (pv 2) (pa_cons (pv 4) (pa_cons (pv 5) pa_nil))))))))))))), ?_⟩
  have tz := t.sz_pos
  walk_at "rd"
  refine ⟨v, t, rfl, ht, by omega, by omega, fun pl H1 s1 n1 h1 => ?_⟩
  obtain ⟨ps, hp, hl, hg⟩ := h1
  have h1 : PosIn H1 pl (poss t) := ⟨ps, hp, hl, hg⟩
  have plen := poss_len t
  have st1 := st.same s1
  have pls : pl ≠ s := (st.free n1).1.symm
  iterate 3 refine ⟨_, rfl, ?_⟩
  refine ⟨pl, _, rfl, .inl (SqL.of hp), ?_⟩
  rw [List.length_map, hl, plen]
  walk_at "rd"
  refine ⟨s, l, (t.sz : Int), rfl, st1, by omega, by omega, fun k H2 k0 k1 b2 st2 => ?_⟩
  have tu12 := st1.tu b2
  obtain ⟨k, rfl⟩ := Int.eq_ofNat_of_zero_le k0
  have hk : k < (poss t).length := by omega
  obtain ⟨xs, pa, q, g1, g2, g3, g4, g5⟩ := h1.get hk
  refine ⟨pl, xs, _, _, rfl, rfl, SqL.of (b2 _ _ g1 pls), atI_nat g3, ?_⟩
  obtain ⟨ip, il⟩ := poss_is t q (List.mem_of_getElem? g4)
  obtain ⟨c0, hc0⟩ := (isPos_at q t).mp ip
  have g6 := tu12 _ _ g5
  have ht2 := ht.tu ((tu_same s1).trans tu12)
  have b02 : But s H H2 := (but_same s1).trans b2
  have hq2 := b02 _ _ hq qs
  walk_at "rd"
  refine ⟨v, t, c0, pa, q, rfl, ht2, g6, hc0, fun fv H3 s3 hf => ?_⟩
  have b03 := b02.trans (but_same s3)
  have st3 := st2.same s3
  have ht3 := ht2.tu (tu_same s3)
  have hq3 := s3 _ _ hq2
  have g7 := s3 _ _ g6
  have wc : c0.wf fs B := at_wf q t c0 hc0 wt
  have stay : Mv cm fs B t t := Mv.refl wt
  dsimp only [gName]
  refine at_state (t := tSeq _ _) (σ' := [some (.ref s), some (.ref qn), some v, some (.ref pl), some (.ref pa), some fv, none, none, none]) rfl ?_
  cases c0 with
  | var n =>
    cases (show fv = .int n from hf)
    walk_at "ri"
    exact q0 v t H3 b03 st3 ht3 stay
  | app g cs =>
    obtain ⟨fa, fvs, rfl, hfa, hcs⟩ := id hf
    have hs : inV (V.str g) (nl.map V.str) = cm g := by rw [inV_str2, hcm]
    walk_at "ri"
    refine ⟨by rw [List.all_map]; exact List.all_eq_true.mpr fun _ _ => rfl, ?_⟩
    rw [hs]
    cases hc : cm g with
    | false =>
      walk_at "rd"
      exact q0 v t H3 b03 st3 ht3 stay
    | true =>
      obtain ⟨⟨kk, hkk, hl2⟩, wcs⟩ := (show (∃ k, fs[k]? = some g ∧ cs.length = ar k) ∧ Tm.wfs fs B cs from wc)
      rw [two kk g hkk hc] at hl2
      obtain ⟨c1, c2, rfl⟩ : ∃ a b, cs = [a, b] := match cs, hl2 with | [a, b], _ => ⟨a, b, rfl⟩
      obtain ⟨v1, r1, rfl, hc1, v2, r2, rfl, hc2, er2⟩ := hcs
      cases (show r2 = [] from er2)
      walk_at "rd"
      refine ⟨s, l, 3, rfl, st3, by decide, by decide, fun kd H4 _ _ b4 st4 => ?_⟩
      have tu4 := st3.tu b4
      have hfa4 := tu4 _ _ hfa
      have h14 := hc1.tu tu4
      have h24 := hc2.tu tu4
      have hf4 : TmIn H4 (.app g [c1, c2]) (.ref fa) := hf.tu tu4
      walk_at "rd"
      refine ⟨v1, v2, rfl, ?_⟩
      dsimp only [gName]
      refine at_state (t := tSeq _ _) (σ' := [some (.ref s), some (.ref qn), some v, some (.ref pl), some (.ref pa), some (.ref fa), some (.int kd), some v1, some v2]) rfl ?_
      refine seq_join (t := tIfS _ _ _) (fun σ' H5 => ∃ (fv : V) (u : Tm), σ' = [some (.ref s), some (.ref qn), some v, some (.ref pl), some (.ref pa), some fv, some (.int kd), some v1, some v2] ∧ Same H4 H5 ∧ TmIn H5 u fv ∧ Mv cm fs B (.app g [c1, c2]) u) ?_ (fun NN cont => ?_)
      · rintro σ' H5 ⟨fv, u, rfl, s5, hu, mv⟩
        walk_at "rd"
        refine ⟨v, fv, t, u, pa, q, rfl, (ht3.tu tu4).tu (tu_same s5), hu, s5 _ _ (tu4 _ _ g7), ip, by omega, by omega, fun r H6 s6 hr => ?_⟩
        exact q0 r _ H6 (b03.trans (b4.trans (but_same (s5.trans s6)))) (st4.same (s5.trans s6)) hr (mv_rep nd two q t _ wt hc0 mv)
      · have last : ∀ (s' : Unit), True := fun _ => trivial
        walk_at "rd"
        refine ifEq (fun k0 => ?_) (fun k0 => ?_)
        · walk_at "rd"
          refine ⟨by show 3 ≤ sizeLine; decide, ?_⟩
          first | intro p5 n5 | refine fun p5 n5 => ?_
          generalize ehn : upd H4 p5 _ = H5
          have s5 := J.al_same n5 ehn
          have h5 := J.al_at ehn
          clear ehn
          exact cont _ _ ⟨.ref p5, .app g [c2, c1], rfl, s5, ⟨p5, _, rfl, h5, _, _, rfl, h24.tu (tu_same s5), _, _, rfl, h14.tu (tu_same s5), rfl⟩, mv_swap nd two hc wc⟩
        · walk_at "rd"
          refine ifEq (fun k1 => ?_) (fun k1 => ?_)
          · walk_at "rd"
            cases c1 with
            | var n1 =>
              cases (show v1 = .int n1 from h14)
              walk_at "ri"
              cases c2 with
              | var n2 =>
                cases (show v2 = .int n2 from h24)
                walk_at "ri"
                exact cont _ _ ⟨.ref fa, _, rfl, Same.refl _, hf4, Mv.refl wc⟩
              | app f2 rs2 =>
                obtain ⟨ra, rvs, rfl, hra, hrs⟩ := id h24
                walk_at "ri"
                refine ifEqS (fun e => ?_) (fun e => ?_)
                · subst e
                  obtain ⟨⟨k2, hk2, hl3⟩, wrs⟩ := (show (∃ k, fs[k]? = some f2 ∧ rs2.length = ar k) ∧ Tm.wfs fs B rs2 from wcs.2.1)
                  rw [two k2 f2 hk2 hc] at hl3
                  obtain ⟨x1, x2, rfl⟩ : ∃ a b, rs2 = [a, b] := match rs2, hl3 with | [a, b], _ => ⟨a, b, rfl⟩
                  obtain ⟨w1, r3, rfl, hx1, w2, r4, rfl, hx2, er4⟩ := hrs
                  cases (show r4 = [] from er4)
                  walk_at "rd"
                  refine ⟨by show 3 ≤ sizeLine; decide, ?_⟩
                  first | intro p5 n5 | refine fun p5 n5 => ?_
                  generalize ehn : upd H4 p5 _ = H5
                  have s5 := J.al_same n5 ehn
                  have h5 := J.al_at ehn
                  clear ehn
                  have hra5 := s5 _ _ hra
                  walk_at "rd"
                  refine ⟨by show 3 ≤ sizeLine; decide, ?_⟩
                  first | intro p6 n6 | refine fun p6 n6 => ?_
                  generalize ehn : upd H5 p6 _ = H6
                  have s6 := J.al_same n6 ehn
                  have h6x := J.al_at ehn
                  clear ehn
                  have s46 := s5.trans s6
                  exact cont _ _ ⟨.ref p6, .app f2 [.app f2 [_, x1], x2], rfl, s46, ⟨p6, _, rfl, h6x, .ref p5, _, rfl, ⟨p5, _, rfl, s6 _ _ h5, _, _, rfl, h14.tu (tu_same s46), _, _, rfl, hx1.tu (tu_same s46), rfl⟩, _, _, rfl, hx2.tu (tu_same s46), rfl⟩, mv_left nd two hc wc⟩
                · walk_at "rd"
                  exact cont _ _ ⟨.ref fa, _, rfl, Same.refl _, hf4, Mv.refl wc⟩
            | app f1 rs1 =>
              obtain ⟨la, lvs, rfl, hla, hls⟩ := id h14
              walk_at "ri"
              refine ifEqS (fun e => ?_) (fun e => ?_)
              · subst e
                obtain ⟨⟨k2, hk2, hl3⟩, wrs⟩ := (show (∃ k, fs[k]? = some f1 ∧ rs1.length = ar k) ∧ Tm.wfs fs B rs1 from wcs.1)
                rw [two k2 f1 hk2 hc] at hl3
                obtain ⟨x1, x2, rfl⟩ : ∃ a b, rs1 = [a, b] := match rs1, hl3 with | [a, b], _ => ⟨a, b, rfl⟩
                obtain ⟨w1, r3, rfl, hx1, w2, r4, rfl, hx2, er4⟩ := hls
                cases (show r4 = [] from er4)
                walk_at "rd"
                refine ⟨by show 3 ≤ sizeLine; decide, ?_⟩
                first | intro p5 n5 | refine fun p5 n5 => ?_
                generalize ehn : upd H4 p5 _ = H5
                have s5 := J.al_same n5 ehn
                have h5 := J.al_at ehn
                clear ehn
                walk_at "rd"
                refine ⟨by show 3 ≤ sizeLine; decide, ?_⟩
                first | intro p6 n6 | refine fun p6 n6 => ?_
                generalize ehn : upd H5 p6 _ = H6
                have s6 := J.al_same n6 ehn
                have h6x := J.al_at ehn
                clear ehn
                have s46 := s5.trans s6
                exact cont _ _ ⟨.ref p6, .app f1 [x1, .app f1 [x2, c2]], rfl, s46, ⟨p6, _, rfl, h6x, _, _, rfl, hx1.tu (tu_same s46), .ref p5, _, rfl, ⟨p5, _, rfl, s6 _ _ h5, _, _, rfl, hx2.tu (tu_same s46), _, _, rfl, h24.tu (tu_same s46), rfl⟩, rfl⟩, mv_right nd two hc wc⟩
              · walk_at "rd"
                cases c2 with
                | var n2 =>
                  cases (show v2 = .int n2 from h24)
                  walk_at "ri"
                  exact cont _ _ ⟨.ref fa, _, rfl, Same.refl _, hf4, Mv.refl wc⟩
                | app f2 rs2 =>
                  obtain ⟨ra, rvs, rfl, hra, hrs⟩ := id h24
                  walk_at "ri"
                  refine ifEqS (fun e => ?_) (fun e => ?_)
                  · subst e
                    obtain ⟨⟨k2, hk2, hl3⟩, wrs⟩ := (show (∃ k, fs[k]? = some f2 ∧ rs2.length = ar k) ∧ Tm.wfs fs B rs2 from wcs.2.1)
                    rw [two k2 f2 hk2 hc] at hl3
                    obtain ⟨x1, x2, rfl⟩ : ∃ a b, rs2 = [a, b] := match rs2, hl3 with | [a, b], _ => ⟨a, b, rfl⟩
                    obtain ⟨w1, r3, rfl, hx1, w2, r4, rfl, hx2, er4⟩ := hrs
                    cases (show r4 = [] from er4)
                    walk_at "rd"
                    refine ⟨by show 3 ≤ sizeLine; decide, ?_⟩
                    first | intro p5 n5 | refine fun p5 n5 => ?_
                    generalize ehn : upd H4 p5 _ = H5
                    have s5 := J.al_same n5 ehn
                    have h5 := J.al_at ehn
                    clear ehn
                    have hra5 := s5 _ _ hra
                    walk_at "rd"
                    refine ⟨by show 3 ≤ sizeLine; decide, ?_⟩
                    first | intro p6 n6 | refine fun p6 n6 => ?_
                    generalize ehn : upd H5 p6 _ = H6
                    have s6 := J.al_same n6 ehn
                    have h6x := J.al_at ehn
                    clear ehn
                    have s46 := s5.trans s6
                    exact cont _ _ ⟨.ref p6, .app f2 [.app f2 [_, x1], x2], rfl, s46, ⟨p6, _, rfl, h6x, .ref p5, _, rfl, ⟨p5, _, rfl, s6 _ _ h5, _, _, rfl, h14.tu (tu_same s46), _, _, rfl, hx1.tu (tu_same s46), rfl⟩, _, _, rfl, hx2.tu (tu_same s46), rfl⟩, mv_left nd two hc wc⟩
                  · walk_at "rd"
                    exact cont _ _ ⟨.ref fa, _, rfl, Same.refl _, hf4, Mv.refl wc⟩
          · walk_at "rd"
            cases c2 with
            | var n2 =>
              cases (show v2 = .int n2 from h24)
              walk_at "ri"
              exact cont _ _ ⟨.ref fa, _, rfl, Same.refl _, hf4, Mv.refl wc⟩
            | app f2 rs2 =>
              obtain ⟨ra, rvs, rfl, hra, hrs⟩ := id h24
              walk_at "ri"
              refine ifEqS (fun e => ?_) (fun e => ?_)
              · subst e
                obtain ⟨⟨k2, hk2, hl3⟩, wrs⟩ := (show (∃ k, fs[k]? = some f2 ∧ rs2.length = ar k) ∧ Tm.wfs fs B rs2 from wcs.2.1)
                rw [two k2 f2 hk2 hc] at hl3
                obtain ⟨x1, x2, rfl⟩ : ∃ a b, rs2 = [a, b] := match rs2, hl3 with | [a, b], _ => ⟨a, b, rfl⟩
                obtain ⟨w1, r3, rfl, hx1, w2, r4, rfl, hx2, er4⟩ := hrs
                cases (show r4 = [] from er4)
                walk_at "rd"
                refine ⟨by show 3 ≤ sizeLine; decide, ?_⟩
                first | intro p5 n5 | refine fun p5 n5 => ?_
                generalize ehn : upd H4 p5 _ = H5
                have s5 := J.al_same n5 ehn
                have h5 := J.al_at ehn
                clear ehn
                have hra5 := s5 _ _ hra
                walk_at "rd"
                refine ⟨by show 3 ≤ sizeLine; decide, ?_⟩
                first | intro p6 n6 | refine fun p6 n6 => ?_
                generalize ehn : upd H5 p6 _ = H6
                have s6 := J.al_same n6 ehn
                have h6x := J.al_at ehn
                clear ehn
                have s46 := s5.trans s6
                exact cont _ _ ⟨.ref p6, .app f2 [.app f2 [_, x1], x2], rfl, s46, ⟨p6, _, rfl, h6x, .ref p5, _, rfl, ⟨p5, _, rfl, s6 _ _ h5, _, _, rfl, h14.tu (tu_same s46), _, _, rfl, hx1.tu (tu_same s46), rfl⟩, _, _, rfl, hx2.tu (tu_same s46), rfl⟩, mv_left nd two hc wc⟩
              · walk_at "rd"
                exact cont _ _ ⟨.ref fa, _, rfl, Same.refl _, hf4, Mv.refl wc⟩

/-! _flat_arguments -/
def FlaI (g : Str) (t : Tm) (H0 : Hp) (pf pw : Addr) (v : V) (m : Nat) (σ : L2.St) (H : Hp) : Prop := ∃ (x : Option V) (us as : List Tm) (ws acc : List V),
  σ = [some (.str g), some v, some (.ref pf), some (.ref pw), x] ∧ H pw = some (.lst ws) ∧ TmsIn H us ws ∧ H pf = some (.lst acc) ∧ TmsIn H as acc ∧ prt g t = as ++ prts g us.reverse ∧ m ≤ t.sz ∧ Tm.szs us ≤ m ∧ (∃ fs B, Tm.wfs fs B us ∧ ∀ (k : Nat), fs[k]? = some g → ar k = 2) ∧ Same H0 H
def sp_u_flat_arguments : Sp := fun vs H Q _ => ∃ (g : Str) (v : V) (t : Tm) (fs : List Str) (B : Int), vs = [.str g, v] ∧ TmIn H t v ∧ t.sz ≤ 100000 ∧ t.wf fs B ∧ (∀ (k : Nat), fs[k]? = some g → ar k = 2) ∧
  ∀ p ws H', Same H H' → H p = none → H' p = some (.lst ws) → TmsIn H' (prt g t) ws → Q (.ref p) H'
theorem ok_u_flat_arguments (T : Tx K mg A) : FnOk P w K mg base CX0 (1) A.a_u_flat_arguments A.d_u_flat_arguments ["name", "term"] sp_u_flat_arguments := by
  refine T.F_u_flat_arguments.ok sc_u_flat_arguments (fun vs H Q E h => ?_) (fun cdv Ar outer s0 H vs Q E hr h => ?_)
  · obtain ⟨g, v, t, fs, B, rfl, _⟩ := h; rfl
  obtain ⟨g, v, t, fs, B, rfl, ht, hz, wt, two, q⟩ := h
  refine ⟨_, (pss_cons (ps_set (i := 2) sc_u_flat_arguments.nd rfl (Or.inl rfl) (pe_lst pa_nil))
    (pss_cons (ps_set (i := 3) sc_u_flat_arguments.nd rfl (Or.inl rfl) (pe_lst (pa_cons (pv 1) pa_nil)))
    (pss_cons (ps_while PassesOwn.never (pt_truth (pv 3) (by intro _; rfl)) (pss_cons (ps_set (i := 4) sc_u_flat_arguments.nd rfl (Or.inl rfl) (pe_bm0 PySem.F.plainAttrs_list PySem.F.slot_list_pop PySem.F.type_list_pop mt_pop (pv 3)))
    (pss_one (ps_if (PW.pt (pw_and (pt_val (pe_callB (r := rIsi K) call_isi (by rfl) T.n_isinstance boot_isinstance (pa_cons (pv 4) (pa_cons (pe_bltn (v := .ty "tuple") (by rfl) T.n_tuple boot_tuple rfl) pa_nil)))) (pw_and1 (pt_cmpR op_eq (pe_ix (r := rIxT K) ix_tup (pv 4) pe_int (fun _ _ => rfl)) (pv 0) (nomark _))))) (pss_one (ps_expr (pe_bm PySem.F.plainAttrs_list PySem.F.slot_list_extend PySem.F.type_list_extend mt_extend (pv 3) (pa_cons (pe_lst (pa_cons (pe_ix (r := rIxT K) ix_tup (pv 4) pe_int (fun _ _ => rfl)) (pa_cons (pe_ix (r := rIxT K) ix_tup (pv 4) pe_int (fun _ _ => rfl)) pa_nil))) pa_nil)))) (pss_one (ps_expr (pe_bm PySem.F.plainAttrs_list PySem.F.slot_list_append PySem.F.type_list_append mt_append (pv 2) (pa_cons (pv 4) pa_nil))))))))
    (pss_one (ps_ret (pv 2)))))), ?_⟩
  walk_at "rd"
  refine ⟨by show 0 ≤ sizeLine; decide, ?_⟩
  first | intro p n1 | refine fun p n1 => ?_
  generalize ehn : upd H p _ = H1
  have s1 := J.al_same n1 ehn
  have h1 := J.al_at ehn
  clear ehn
  walk_at "rd"
  refine ⟨by show 1 ≤ sizeLine; decide, ?_⟩
  first | intro w n2 | refine fun w n2 => ?_
  generalize ehn : upd H1 w _ = H2
  have s2 := J.al_same n2 ehn
  have h2 := J.al_at ehn
  clear ehn
  have hpw : p ≠ w := fun z => by rw [z] at h1; rw [h1] at n2; cases n2
  refine while_listM (K := K) (FlaI g t H p w v) t.sz ?_ ?_
  · refine ⟨none, [t], [], [v], [], rfl, h2, TmsIn.one ((ht.tu (tu_same s1)).tu (tu_same s2)), s2 _ _ h1, rfl, ?_, Nat.le_refl _, Nat.le_refl _, ⟨fs, B, ⟨wt, trivial⟩, two⟩, s1.trans s2⟩
    show prt g t = [] ++ (prt g t ++ [])
    rw [List.append_nil]; rfl
  · rintro m σ' H' ⟨x, us, as, ws, acc, rfl, hw, hus, hp, has, e, ul, um, ⟨fs, B, wus, two⟩, k⟩
    refine ⟨w, ws, rfl, hw, fun z => ?_, fun z => ?_⟩
    · subst z
      have : us = [] := List.length_eq_zero_iff.mp hus.length.symm
      subst this
      walk_at "rd"
      have e : prt g t = as ++ [] := e
      rw [List.append_nil] at e
      exact q p acc H' k n1 hp (by rw [e]; exact has)
    · have hl : ws.length - 1 < ws.length := by
        cases ws with
        | nil => exact absurd rfl z
        | cons a r => exact Nat.sub_lt (Nat.succ_pos _) Nat.one_pos
      obtain ⟨u, hu⟩ : ∃ u, ws[ws.length - 1]? = some u := ⟨_, List.getElem?_eq_getElem hl⟩
      obtain ⟨us', r, rfl, hr1, hus'⟩ := hus.snoc hu
      rw [List.reverse_append] at e
      have e : prt g t = as ++ (prt g r ++ prts g us'.reverse) := e
      walk_at "rd"
      refine ⟨.inl ⟨rfl, _, SqL.of hw⟩, w, ws, u, rfl, rfl, hw, hu, ?_⟩
      generalize ehn : upd H' w _ = H3
      have b3 := J.al_but ehn
      have h3 := J.al_at ehn
      clear ehn
      have k3 : Same H H3 := fun a o ea => b3 a o (k a o ea) fun z => by rw [z] at ea; rw [s1.free n2] at ea; cases ea
      have tu3 : Tu H' H3 := but_tu b3 (lst_not_tup hw)
      have hp3 := b3 _ _ hp hpw
      have hr3 := hr1.tu tu3
      have hus3 := hus'.tu tu3
      have has3 := has.tu tu3
      have wr : r.wf fs B := Tm.wf_of_mem wus (List.mem_append.mpr (.inr (List.mem_singleton.mpr rfl)))
      have wu' : Tm.wfs fs B us' := Tm.wfs_of fun y hy => Tm.wf_of_mem wus (List.mem_append.mpr (.inl hy))
      rw [szs_app2] at um
      have um : Tm.szs us' + (r.sz + 0) ≤ m := um
      have ul2 := Tm.len_le us'
      have pl := prt_len g t
      have el := congrArg List.length e
      rw [List.length_append, List.length_append] at el
      have hrz := r.sz_pos
      cases r with
      | var n =>
        cases (show u = .int n from hr3)
        walk_at "ri"
        refine ⟨.inl ⟨rfl, _, SqL.of hp3⟩, ?_⟩
        walk_at "rd"
        refine ⟨p, acc, _, rfl, rfl, hp3, Nat.lt_of_lt_of_le (show acc.length < 100001 by rw [has.length]; omega) (by decide), ?_⟩
        generalize ehn : upd H3 p _ = H4
        have b4 := J.al_but ehn
        have h4 := J.al_at ehn
        clear ehn
        have tu4 : Tu H3 H4 := but_tu b4 (lst_not_tup hp3)
        refine less_of (k := Tm.szs us') ⟨_, us', as ++ [.var n], _, acc ++ [.int n], rfl, b4 _ _ h3 hpw.symm, hus3.tu tu4, h4, (has3.tu tu4).append (TmsIn.one (t := .var n) (v := .int n) (show V.int n = V.int n from rfl)), ?_, by omega, Nat.le_refl _, ⟨fs, B, wu', two⟩, fun a o ea => b4 a o (k3 a o ea) fun z => by rw [z, n1] at ea; cases ea⟩ (by omega)
        rw [e, List.append_assoc]; rfl
      | app f ts =>
        obtain ⟨a, vs, rfl, ha, hts⟩ := id hr3
        walk_at "ri"
        refine ifEqS (fun ef => ?_) (fun ef => ?_)
        · subst ef
          obtain ⟨⟨kk, hk, hl2⟩, wts⟩ := (show (∃ k, fs[k]? = some f ∧ ts.length = ar k) ∧ Tm.wfs fs B ts from wr)
          rw [two kk hk] at hl2
          obtain ⟨t1, t2, rfl⟩ : ∃ a b, ts = [a, b] := match ts, hl2 with | [a, b], _ => ⟨a, b, rfl⟩
          obtain ⟨v1, r1, rfl, ht1, v2, r2, rfl, ht2, er2⟩ := hts
          cases (show r2 = [] from er2)
          walk_at "rd"
          refine ⟨.inl ⟨rfl, _, SqL.of h3⟩, ?_⟩
          walk_at "rd"
          refine ⟨by show 2 ≤ sizeLine; decide, ?_⟩
          first | intro y n4 | refine fun y n4 => ?_
          generalize ehn : upd H3 y _ = H4
          have s4 := J.al_same n4 ehn
          have h4 := J.al_at ehn
          clear ehn
          have yw : y ≠ w := fun z => by rw [z, h3] at n4; cases n4
          have lw := hus'.length
          have z12 : 1 + (t1.sz + (t2.sz + 0)) + 0 = (Tm.app f [t1, t2]).sz + 0 := rfl
          refine ⟨w, y, _, _, rfl, rfl, s4 _ _ h3, h4, Nat.le_trans (show _ + 2 ≤ 100010 by omega) (by decide), ?_⟩
          generalize ehn : upd H4 w _ = H5
          have b5 := J.al_but ehn
          have h5 := J.al_at ehn
          clear ehn
          have t35 : Tu H3 H5 := (tu_same s4).trans (but_tu b5 (lst_not_tup (s4 _ _ h3)))
          refine less_of (k := Tm.szs (us' ++ [t2, t1])) ⟨_, us' ++ [t2, t1], as, _, acc, rfl, h5, (hus3.tu t35).append ⟨v2, [v1], rfl, ht2.tu t35, TmsIn.one (ht1.tu t35)⟩, b5 _ _ (s4 _ _ hp3) hpw, has3.tu t35, ?_, ?_, Nat.le_refl _, ⟨fs, B, wfs_app wu' ⟨wts.2.1, wts.1, trivial⟩, two⟩, fun a o ea => b5 a o (s4 _ _ (k3 a o ea)) fun z => by rw [z] at ea; rw [s1.free n2] at ea; cases ea⟩ ?_
          · rw [e, List.reverse_append, prt_head]
            show as ++ ((prt f t1 ++ (prt f t2 ++ [])) ++ prts f us'.reverse) = as ++ (prt f t1 ++ (prt f t2 ++ prts f us'.reverse))
            rw [List.append_nil, List.append_assoc]
          · rw [szs_app2]; show Tm.szs us' + (t2.sz + (t1.sz + 0)) ≤ _; omega
          · rw [szs_app2]; show Tm.szs us' + (t2.sz + (t1.sz + 0)) < _; omega
        · walk_at "rd"
          refine ⟨.inl ⟨rfl, _, SqL.of hp3⟩, ?_⟩
          walk_at "rd"
          refine ⟨p, acc, _, rfl, rfl, hp3, Nat.lt_of_lt_of_le (show acc.length < 100001 by rw [has.length]; omega) (by decide), ?_⟩
          generalize ehn : upd H3 p _ = H4
          have b4 := J.al_but ehn
          have h4 := J.al_at ehn
          clear ehn
          have tu4 : Tu H3 H4 := but_tu b4 (lst_not_tup hp3)
          refine less_of (k := Tm.szs us') ⟨_, us', as ++ [.app f ts], _, acc ++ [.ref a], rfl, b4 _ _ h3 hpw.symm, hus3.tu tu4, h4, (has3.tu tu4).append (TmsIn.one (hr3.tu tu4)), ?_, by omega, Nat.le_refl _, ⟨fs, B, wu', two⟩, fun a o ea => b4 a o (k3 a o ea) fun z => by rw [z, n1] at ea; cases ea⟩ (by omega)
          rw [e, prt_other (t := .app f ts) (decide_eq_false ef), List.append_assoc]

/-! symbols -/
def sp_symbols : Sp := fun vs H Q _ => ∃ (v : V) (t : Tm), vs = [v] ∧ TmIn H t v ∧ t.sz ≤ 100000 ∧ ∀ p H', Same H H' → H p = none → H' p = some (.lst (syms t)) → Q (.ref p) H'
theorem ok_symbols (T : Tx K mg A) : FnOk P w K mg base CX0 (1) A.a_symbols A.d_symbols ["term"] sp_symbols := by
  refine T.F_symbols.ok sc_symbols (fun vs H Q E h => ?_) (fun cdv Ar outer s0 H vs Q E hr h => ?_)
  · obtain ⟨v, t, rfl, _⟩ := h; rfl
  obtain ⟨v, t, rfl, ht, hz, q⟩ := h
  refine ⟨_, (pss_cons (ps_set (i := 1) sc_symbols.nd rfl (Or.inl rfl) (pe_lst pa_nil))
    (pss_cons (ps_set (i := 2) sc_symbols.nd rfl (Or.inl rfl) (pe_lst (pa_cons (pv 0) pa_nil)))
    (pss_cons (ps_while PassesOwn.never (pt_truth (pv 2) (by intro _; rfl)) (pss_cons (ps_set (i := 3) sc_symbols.nd rfl (Or.inl rfl) (pe_bm0 PySem.F.plainAttrs_list PySem.F.slot_list_pop PySem.F.type_list_pop mt_pop (pv 2)))
    (pss_one (ps_if (pt_val (pe_callB (r := rIsi K) call_isi (by rfl) T.n_isinstance boot_isinstance (pa_cons (pv 3) (pa_cons (pe_bltn (v := .ty "int") (by rfl) T.n_int boot_int rfl) pa_nil)))) (pss_one (ps_expr (pe_bm PySem.F.plainAttrs_list PySem.F.slot_list_append PySem.F.type_list_append mt_append (pv 1) (pa_cons (pv 3) pa_nil)))) (pss_cons (ps_expr (pe_bm PySem.F.plainAttrs_list PySem.F.slot_list_append PySem.F.type_list_append mt_append (pv 1) (pa_cons (pe_ix (r := rIxT K) ix_tup (pv 3) pe_int (fun _ _ => rfl)) pa_nil)))
    (pss_one (ps_expr (pe_bm PySem.F.plainAttrs_list PySem.F.slot_list_extend PySem.F.type_list_extend (r := rExtT K) mt_extT (pv 2) (pa_cons (pe_revT (pv 3)) pa_nil)))))))))
    (pss_one (ps_ret (pv 1)))))), ?_⟩
  walk_at "rd"
  refine ⟨by show 0 ≤ sizeLine; decide, ?_⟩
  first | intro p n1 | refine fun p n1 => ?_
  generalize ehn : upd H p _ = H1
  have s1 := J.al_same n1 ehn
  have h1 := J.al_at ehn
  clear ehn
  walk_at "rd"
  refine ⟨by show 1 ≤ sizeLine; decide, ?_⟩
  first | intro w n2 | refine fun w n2 => ?_
  generalize ehn : upd H1 w _ = H2
  have s2 := J.al_same n2 ehn
  have h2 := J.al_at ehn
  clear ehn
  have hpw : p ≠ w := fun z => by rw [z] at h1; rw [h1] at n2; cases n2
  refine while_list (K := K) (fun σ' H' => ∃ (us : List Tm) (ws acc : List V) (x : Option V), σ' = [some v, some (.ref p), some (.ref w), x] ∧ H' w = some (.lst ws) ∧ TmsIn H' us ws ∧ H' p = some (.lst acc) ∧ syms t = acc ++ symss us.reverse ∧ Same H H')
    (fun σ' H' => t.sz - (match H' p with | some (.lst acc) => acc.length | _ => 0)) ?_ ?_
  · exact ⟨[t], [v], [], none, rfl, h2, TmsIn.one ((ht.tu (tu_same s1)).tu (tu_same s2)), s2 _ _ h1, by show syms t = [] ++ (syms t ++ []); simp, s1.trans s2⟩
  · rintro σ' H' ⟨us, ws, acc, x, rfl, hw, hus, hp, e, k⟩
    refine ⟨w, ws, rfl, hw, fun z => ?_, fun z => ?_⟩
    · subst z
      have : us = [] := List.length_eq_zero_iff.mp hus.length.symm
      subst this
      walk_at "rd"
      refine q p H' k n1 ?_
      rw [hp, e]
      show some (HO.lst acc) = some (HO.lst (acc ++ []))
      rw [List.append_nil]
    · have hl : ws.length - 1 < ws.length := by
        cases ws with
        | nil => exact absurd rfl z
        | cons a r => exact Nat.sub_lt (Nat.succ_pos _) Nat.one_pos
      obtain ⟨u, hu⟩ : ∃ u, ws[ws.length - 1]? = some u := ⟨_, List.getElem?_eq_getElem hl⟩
      obtain ⟨us', r, rfl, hr1, hus'⟩ := hus.snoc hu
      rw [List.reverse_append] at e
      have e : syms t = acc ++ (syms r ++ symss us'.reverse) := e
      have el := congrArg List.length e
      rw [syms_len, List.length_append, List.length_append, syms_len, symss_len, szs_rev] at el
      have hrz := r.sz_pos
      walk_at "rd"
      refine ⟨.inl ⟨rfl, _, SqL.of hw⟩, w, ws, u, rfl, rfl, hw, hu, ?_⟩
      generalize ehn : upd H' w _ = H3
      have b3 := J.al_but ehn
      have h3 := J.al_at ehn
      clear ehn
      have k3 : Same H H3 := fun a o ea => b3 a o (k a o ea) fun z => by rw [z] at ea; rw [s1.free n2] at ea; cases ea
      have tu3 : Tu H' H3 := but_tu b3 (lst_not_tup hw)
      have hp3 := b3 _ _ hp hpw
      have hr3 := hr1.tu tu3
      have hus3 := hus'.tu tu3
      cases r with
      | var n =>
        cases (show u = .int n from hr3)
        walk_at "rd"
        walk_at "isi"
        walk_at "rd"
        refine ⟨.inl ⟨rfl, _, SqL.of hp3⟩, _, rfl, p, acc, _, rfl, rfl, hp3, Nat.lt_of_lt_of_le (show acc.length < 100001 by omega) (by decide), ?_⟩
        generalize ehn : upd H3 p _ = H4
        have b4 := J.al_but ehn
        have h4 := J.al_at ehn
        clear ehn
        refine ⟨⟨us', _, acc ++ [.int n], _, rfl, b4 _ _ h3 hpw.symm, hus3.tu (but_tu b4 (lst_not_tup hp3)), h4, ?_, fun a o ea => b4 a o (k3 a o ea) fun z => by rw [z, n1] at ea; cases ea⟩, ?_⟩
        · rw [e, List.append_assoc]; rfl
        · rw [h4, hp]
          show t.sz - (acc ++ [V.int n]).length < t.sz - acc.length
          rw [List.length_append]
          have el : t.sz = acc.length + (1 + Tm.szs us') := el
          show t.sz - (acc.length + 1) < _
          omega
      | app f ts =>
        obtain ⟨a, vs, rfl, ha, hts⟩ := hr3
        have el : t.sz = acc.length + ((1 + Tm.szs ts) + Tm.szs us') := el
        walk_at "rd"
        walk_at "isi"
        walk_at "rd"
        refine ⟨.inl ⟨rfl, _, SqL.of hp3⟩, ?_⟩
        walk_at "rd"
        refine ⟨p, acc, _, rfl, rfl, hp3, Nat.lt_of_lt_of_le (show acc.length < 100001 by omega) (by decide), ?_⟩
        generalize ehn : upd H3 p _ = H4
        have b4 := J.al_but ehn
        have h4 := J.al_at ehn
        clear ehn
        have tu4 : Tu H3 H4 := but_tu b4 (lst_not_tup hp3)
        have hw4 := b4 _ _ h3 hpw.symm
        have ha4 := tu4 _ _ ha
        have k4 : Same H H4 := fun a o ea => b4 a o (k3 a o ea) fun z => by rw [z, n1] at ea; cases ea
        walk_at "rd"
        refine ⟨.inl ⟨rfl, _, SqL.of hw4⟩, _, rfl, a, _, vs, rfl, SqT.of ha4, ?_⟩
        first | intro y n5 | refine fun y n5 => ?_
        generalize ehn : upd H4 y _ = H5
        have s5 := J.al_same n5 ehn
        have h5 := J.al_at ehn
        clear ehn
        have hw5 := s5 _ _ hw4
        have hl1 := hus'.length
        have hl2 := hts.length
        have h3' := Tm.len_le us'
        have h4' := Tm.len_le ts
        refine ⟨w, y, _, _, rfl, rfl, hw5, SqT.of h5, ?_, ?_⟩
        · rw [List.length_reverse]
          exact Nat.le_trans (show ws.dropLast.length + vs.length ≤ 100001 by omega) (by decide)
        generalize ehn : upd H5 w _ = H6
        have b6 := J.al_but ehn
        have h6 := J.al_at ehn
        clear ehn
        have tu6 : Tu H5 H6 := but_tu b6 (lst_not_tup hw5)
        have tu36 : Tu H3 H6 := tu4.trans ((tu_same s5).trans tu6)
        refine ⟨⟨us' ++ ts.reverse, _, acc ++ [.str f], _, rfl, h6, (hus3.tu tu36).append (hts.rev.tu tu36), b6 _ _ (s5 _ _ h4) hpw, ?_, fun a o ea => b6 a o (s5 a o (k4 a o ea)) fun z => by rw [z] at ea; rw [s1.free n2] at ea; cases ea⟩, ?_⟩
        · rw [e, List.reverse_append, List.reverse_reverse, symss_app, List.append_assoc]; rfl
        · rw [b6 _ _ (s5 _ _ h4) hpw, hp]
          show t.sz - (acc ++ [V.str f]).length < t.sz - acc.length
          rw [List.length_append]
          show t.sz - (acc.length + 1) < _
          omega

/-! order_key -/
def KeyIn (H : Hp) (v : V) (t : Tm) : Prop := ∃ p : Addr, v = .ref p ∧ H p = some (.tup [.int ((syms t).length : Int), .str (keyS t)])
theorem KeyIn.same {H H' : Hp} {v : V} {t : Tm} (h : KeyIn H v t) (s : Same H H') : KeyIn H' v t := by
  obtain ⟨p, rfl, h1⟩ := h
  exact ⟨p, rfl, s _ _ h1⟩
theorem KeyIn.dp {K : PySem.W.Frag} {H : Hp} {v : V} {t : Tm} (h : KeyIn H v t) : Dp K H v (.tuple (keyT t)) := by
  obtain ⟨p, rfl, h1⟩ := h
  exact .tup (SqT.of h1) (.cons (.int _) (.cons (.str _) .nil))
def sp_order_key : Sp := fun vs H Q _ => ∃ (v : V) (t : Tm) (fs : List Str) (B : Int), vs = [v] ∧ TmIn H t v ∧ t.sz ≤ 100000 ∧ Names fs ∧ t.wf fs B ∧ B ≤ 100 ∧ ∀ k H', Same H H' → KeyIn H' k t → Q k H'
theorem ok_order_key (T : Tx K mg A) : FnOk P w K mg base CX0 (2) A.a_order_key A.d_order_key ["term"] sp_order_key := by
  have G_symbols := ok_symbols (P := P) (w := w) (base := base) T
  refine T.F_order_key.ok sc_order_key (fun vs H Q E h => ?_) (fun cdv Ar outer s0 H vs Q E hr h => ?_)
  · obtain ⟨v, t, fs, B, rfl, _⟩ := h; rfl
  obtain ⟨v, t, fs, B, rfl, ht, hz, hn, w, hB, q⟩ := h
  refine ⟨_, (pss_cons (ps_set (i := 1) sc_order_key.nd rfl (Or.inl rfl) (pe_lst pa_nil))
    (pss_cons (ps_for PassesOwn.never rfl (pi_list (pe_call G_symbols (hr.mono (by omega)) rfl T.m_symbols T.F_symbols.kp T.b_symbols .nil pass0 (pa_cons (pv 0) pa_nil))) (pg_name (i := 2) sc_order_key.nd rfl (Or.inl rfl)) (pss_one (ps_expr (pe_bm PySem.F.plainAttrs_list PySem.F.slot_list_append PySem.F.type_list_append mt_append (pv 1) (pa_cons (pe_ifExp (pt_val (pe_callB (r := rIsi K) call_isi (by rfl) T.n_isinstance boot_isinstance (pa_cons (pv 2) (pa_cons (pe_bltn (v := .ty "int") (by rfl) T.n_int boot_int rfl) pa_nil)))) (pe_joined1 (pe_fmt5 (pv 2) (pe_joined1 pe_str))) (pe_op op_add_str (pv 2) pe_str)) pa_nil)))))
    (pss_one (ps_ret (pe_tup (pa_cons (pe_callB (r := rLenS K) j_len (by rfl) T.n_len PySem.boot_len (pa_cons (pv 1) pa_nil)) (pa_cons (pe_join pe_str (pv 1)) pa_nil))))))), ?_⟩
  have so := syms_ok hn hB t w
  walk_at "rd"
  refine ⟨show 0 ≤ sizeLine by decide, ?_⟩
  first | intro r n1 | refine fun r n1 => ?_
  generalize ehn : upd H r _ = H1
  have s1 := J.al_same n1 ehn
  have h1 := J.al_at ehn
  clear ehn
  walk_at "rd"
  refine ⟨v, t, rfl, ht.tu (tu_same s1), hz, fun p H2 s2 n2 h2 => ?_⟩
  have hrp : p ≠ r := fun z => by rw [z, h1] at n2; cases n2
  refine ⟨_, rfl, ⟨_, SqL.of h2⟩, for_list (K := K) (a := p) (xs := syms t) (fun i σ' H' => ∃ x, σ' = [some v, some (.ref r), x] ∧ H' r = some (.lst (((syms t).take i).map fun y => V.str (encStr y))) ∧ But r H2 H') ?_ ?_ ?_ ?_⟩
  · exact ⟨none, rfl, s2 _ _ h1, But.refl _ _⟩
  · rintro i σ' H' hi ⟨x, rfl, hr', b⟩
    exact SqL.of (b _ _ h2 hrp)
  · rintro i y σ' H' hi ⟨x, rfl, hr', b⟩
    have hi' : i < (syms t).length := (List.getElem?_eq_some_iff.mp hi).1
    rw [syms_len] at hi'
    have il : (((syms t).take i).map fun y => V.str (encStr y)).length ≤ 100000 := by rw [List.length_map, List.length_take]; omega
    have oy := so y (List.mem_of_getElem? hi)
    rw [list_take_succ hi, List.map_append]
    rcases syms_kind t y (List.mem_of_getElem? hi) with ⟨n, rfl⟩ | ⟨f, rfl⟩
    · walk_at "rd"
      refine ⟨.inl ⟨rfl, _, SqL.of hr'⟩, ?_⟩
      walk_at "ri"
      refine ⟨oy.1, oy.2, rfl, ?_⟩
      refine ⟨r, _, _, rfl, rfl, hr', Nat.lt_of_le_of_lt il (by decide), ?_⟩
      exact ⟨_, rfl, upd_same, b.trans (but_upd _)⟩
    · walk_at "rd"
      refine ⟨.inl ⟨rfl, _, SqL.of hr'⟩, ?_⟩
      walk_at "ri"
      refine ⟨Nat.le_trans (show f.length + 1 ≤ 8 from ?_) (by decide), ?_⟩
      · have := hn.hi f (syms_name w (List.mem_of_getElem? hi))
        omega
      refine ⟨r, _, _, rfl, rfl, hr', Nat.lt_of_le_of_lt il (by decide), ?_⟩
      exact ⟨_, rfl, upd_same, b.trans (but_upd _)⟩
  · rintro σ' H' ⟨x, rfl, hr', b⟩
    rw [List.take_length] at hr'
    walk_at "rd"
    have hr2 : H' r = some (.lst (((syms t).map encStr).map V.str)) := by rw [hr', List.map_map]; rfl
    have hlen : (((syms t).map encStr).map (·.length)).sum ≤ 8 * t.sz := by
      rw [← syms_len, List.map_map]
      exact sum_le fun y hy => by
        rcases syms_kind t y hy with ⟨n, rfl⟩ | ⟨f, rfl⟩
        · exact (by decide : 5 ≤ 8)
        · have := hn.hi f (syms_name w hy)
          show (f ++ (" " : Str)).length ≤ 8
          rw [len_app]
          show f.length + 1 ≤ 8
          omega
    refine ⟨⟨_, rfl⟩, _, rfl, _, _, _, rfl, rfl, .inl (SqL.of hr2), ?_, ?_⟩
    · show _ + _ * 0 ≤ _
      omega
    refine ⟨show 2 ≤ sizeLine by decide, ?_⟩
    first | intro k n5 | refine fun k n5 => ?_
    generalize ehn : upd H' k _ = H5
    have s5 := J.al_same n5 ehn
    have h5 := J.al_at ehn
    clear ehn
    rw [join_key, List.length_map] at h5
    exact q (.ref k) H5 ((b.same (s1.trans s2) n1).trans s5) ⟨k, rfl, h5⟩

/-! _combined -/
def sp_u_combined (N : Nat) : Sp := fun vs H Q _ => ∃ (q : Addr) (nl fs : List Str) (cm : Str → Bool) (B : Int) (v : V) (t : Tm), vs = [.ref q, v] ∧ H q = some (.lst (nl.map V.str)) ∧ nl.length ≤ 6 ∧ (∀ f, cm f = decide (f ∈ nl)) ∧ Names fs ∧ fs.length ≤ 6 ∧ (∀ (k : Nat) (f : Str), fs[k]? = some f → cm f = true → ar k = 2) ∧ TmIn H t v ∧ t.wf fs B ∧ B ≤ 100 ∧ t.dep ≤ N ∧ N ≤ 60 ∧ t.sz ≤ 10000 ∧
  ∀ v' H', Same H H' → TmIn H' (cmb cm t) v' → Q v' H'
theorem st_u_combined (T : Tx K mg A) (N : Nat) (G_u_combined : FnOk P w K mg base CX0 (N + 5) A.a_u_combined A.d_u_combined ["operations", "term"] (sp_u_combined N)) : FnOk P w K mg base CX0 (N + 6) A.a_u_combined A.d_u_combined ["operations", "term"] (sp_u_combined (N + 1)) := by
  have G_order_key := ok_order_key (P := P) (w := w) (base := base) T
  have G_u_flat_arguments := ok_u_flat_arguments (P := P) (w := w) (base := base) T
  refine T.F_u_combined.ok sc_u_combined (fun vs H Q E h => ?_) (fun cdv Ar outer s0 H vs Q E hr h => ?_)
  · obtain ⟨qq, nl, fs, cm, B, v, t, rfl, _⟩ := h; rfl
  obtain ⟨qq, nl, fs, cm, B, v, t, rfl, hq, nl6, hcm, hn, h6, two, ht, wt, hB, dt, hN, zt, q⟩ := h
  refine ⟨_, (pss_cons (ps_if (pt_val (pe_callB (r := rIsi K) call_isi (by rfl) T.n_isinstance boot_isinstance (pa_cons (pv 1) (pa_cons (pe_bltn (v := .ty "int") (by rfl) T.n_int boot_int rfl) pa_nil)))) (pss_one (ps_ret (pv 1))) pss_nil)
    (pss_cons (ps_set (i := 2) sc_u_combined.nd rfl (Or.inl rfl) (pe_cmpR (r := rIn K false) op_in_seq (pe_ix (r := rIxT K) ix_tup (pv 1) pe_int (fun _ _ => rfl)) (pv 0) rfl))
    (pss_cons (ps_set (i := 3) sc_u_combined.nd rfl (Or.inl rfl) (pe_lst pa_nil))
    (pss_cons (ps_for PassesOwn.never rfl (pi_seq (pe_ifExp (pt_val (pv 2)) (pe_call G_u_flat_arguments (hr.mono (by omega)) rfl T.m_u_flat_arguments T.F_u_flat_arguments.kp T.b_u_flat_arguments .nil pass0 (pa_cons (pe_ix (r := rIxT K) ix_tup (pv 1) pe_int (fun _ _ => rfl)) (pa_cons (pv 1) pa_nil))) (pe_slice (r := rSlT K) sl_tup (pv 1) (po_some pe_int) po_none))) (pg_name (i := 4) sc_u_combined.nd rfl (Or.inl rfl)) (pss_one (ps_expr (pe_bm PySem.F.plainAttrs_list PySem.F.slot_list_append PySem.F.type_list_append mt_append (pv 3) (pa_cons (pe_call G_u_combined (hr.mono (by omega)) rfl T.m_u_combined T.F_u_combined.kp T.b_u_combined .nil pass0 (pa_cons (pv 0) (pa_cons (pv 4) pa_nil))) pa_nil)))))
    (pss_cons (ps_if (pt_not (pt_val (pv 2))) (pss_one (ps_ret (pe_tup (pa_cons (pe_ix (r := rIxT K) ix_tup (pv 1) pe_int (fun _ _ => rfl)) (StX.pa_star (pv 3) pa_nil))))) pss_nil)
    (pss_cons (ps_set (i := 3) sc_u_combined.nd rfl (Or.inl rfl) (pe_callBK (cr_sortF G_order_key (hr.mono (by omega)) T.b_order_key) (by rfl) T.n_sorted (by decide +kernel) (pa_cons (pv 3) pa_nil) (pk_cons (pe_glob (v := .ref A.a_order_key) rfl T.m_order_key rfl) pk_nil)))
    (pss_cons (ps_set (i := 5) sc_u_combined.nd rfl (Or.inl rfl) (pe_ix (r := rIxL K) ix_list (pv 3) (pe_un un_neg pe_int) (fun _ _ => rfl)))
    (pss_cons (ps_for PassesOwn.never rfl (pi_list (pe_rev2 (pv 3))) (pg_name (i := 6) sc_u_combined.nd rfl (Or.inl rfl)) (pss_one (ps_set (i := 5) sc_u_combined.nd rfl (Or.inl rfl) (pe_tup (pa_cons (pe_ix (r := rIxT K) ix_tup (pv 1) pe_int (fun _ _ => rfl)) (pa_cons (pv 6) (pa_cons (pv 5) pa_nil)))))))
    (pss_one (ps_ret (pv 5))))))))))), ?_⟩
  cases t with
  | var n =>
    cases (show v = .int n from ht)
    walk_at "ri"
    exact q (.int n) H (Same.refl _) rfl
  | app f ts =>
    obtain ⟨a, vs, rfl, ha, hts⟩ := id ht
    have hvl := hts.length
    walk_at "ri"
    refine ⟨by rw [List.all_map]; exact List.all_eq_true.mpr fun _ _ => rfl, ?_⟩
    have hs : inV (.str f) (nl.map V.str) = cm f := by rw [inV_str2, hcm]
    have zt' : 1 + Tm.szs ts ≤ 10000 := zt
    have dt' : 1 + Tm.deps ts ≤ N + 1 := dt
    dsimp only [gName]
    refine at_state (t := tSeq _ _) (σ' := [some (.ref qq), some (.ref a), some (.bl (cm f)), none, none, none, none]) (by rw [hs]; rfl) ?_
    walk_at "rd"
    refine ⟨show 0 ≤ sizeLine by decide, ?_⟩
    first | intro r n1 | refine fun r n1 => ?_
    generalize ehn : upd H r _ = H1
    have s1 := J.al_same n1 ehn
    have h1 := J.al_at ehn
    clear ehn
    have ha1 := s1 _ _ ha
    cases hc : cm f with
    | false =>
      walk_at "rd"
      walk_at "sl1"
      first | intro u n2 | refine fun u n2 => ?_
      generalize ehn : upd H1 u _ = H2
      have s2 := J.al_same n2 ehn
      have h2 := J.al_at ehn
      clear ehn
      have k12 := s1.trans s2
      have hts2 := hts.tu (tu_same k12)
      have ur : u ≠ r := fun z => by rw [z, h1] at n2; cases n2
      have ln := Tm.len_le ts
      refine ⟨_, rfl, .inr ⟨⟨_, SqT.of h2⟩, for_tup (xs := vs) (fun i σ' H' => ∃ ws' x, σ' = [some (.ref qq), some (.ref a), some (.bl false), some (.ref r), x, none, none] ∧ H' r = some (.lst ws') ∧ TmsIn H' (cmbs cm ((ts).take i)) ws' ∧ But r H2 H') ?_ ?_ ?_ ?_⟩⟩
      · exact ⟨[], none, rfl, s2 _ _ h1, rfl, But.refl _ _⟩
      · rintro i σ' H' hi ⟨ws', x, rfl, hp, hu, b⟩
        exact SqT.of (b _ _ h2 ur)
      · rintro i y σ' H' hi ⟨ws', x, rfl, hp, hu, b⟩
        obtain ⟨t, gt, ht'⟩ := hts2.get hi
        have mt : t ∈ ts := List.mem_of_getElem? gt
        have hwl := hu.length
        rw [cmbs_map, List.length_map, List.length_take] at hwl
        walk_at "rd"
        refine ⟨.inl ⟨rfl, _, SqL.of hp⟩, ?_⟩
        walk_at "rd"
        have k' : Same H H' := b.same k12 n1
        refine ⟨qq, nl, fs, cm, B, y, t, rfl, k' _ _ hq, nl6, hcm, hn, h6, two, ht'.tu (but_tu b (lst_not_tup (s2 _ _ h1))), Tm.wf_of_mem wt.2 mt, hB, by have := TmIn.dep_arg dt mt; omega, by omega, by have := Tm.sz_arg mt; omega, fun v' H4 b4 hv' => ?_⟩
        walk_at "rd"
        refine ⟨r, _, _, rfl, rfl, b4 _ _ hp, Nat.lt_of_le_of_lt (show ws'.length ≤ 10000 by omega) (by decide), ?_⟩
        have tr : Tu H4 (upd H4 r (.lst (ws' ++ [v']))) := tu_upd (lst_not_tup (b4 _ _ hp))
        refine ⟨_, _, rfl, upd_same, ?_, b.trans ((but_same b4).trans (but_upd _))⟩
        rw [list_take_succ gt, cmbs_app]
        exact (hu.tu ((tu_same b4).trans tr)).append (TmsIn.one (hv'.tu tr))
      · rintro σ' H' ⟨ws', x0, rfl, hp, hu, b⟩
        rw [hvl, List.take_length] at hu
        have k' : Same H H' := b.same k12 n1
        have ha' := k' _ _ ha
        walk_at "rd"
        refine ⟨r, _, rfl, .inr (SqL.of hp), ?_⟩
        have lf := ar_len h6 wt
        have hul := hu.length
        rw [cmbs_map, List.length_map] at hul
        refine ⟨Nat.le_trans (show (V.str f :: (ws' ++ [])).length ≤ 10 by rw [List.length_cons, List.append_nil]; omega) (by decide), ?_⟩
        first | intro y n5 | refine fun y n5 => ?_
        generalize ehn : upd H' y _ = H5
        have s5 := J.al_same n5 ehn
        have h5 := J.al_at ehn
        clear ehn
        rw [List.append_nil] at h5
        exact q (.ref y) H5 (k'.trans s5) (by rw [cmb_plain hc]; exact ⟨y, ws', rfl, h5, hu.tu (tu_same s5)⟩)
    | true =>
      walk_at "rd"
      refine ⟨f, .ref a, .app f ts, fs, B, rfl, ht.tu (tu_same s1), by omega, wt, fun k hk => two k f hk hc, fun u us H2 s2 n2 h2 hts2 => ?_⟩
      have k12 := s1.trans s2
      have ur : u ≠ r := fun z => by rw [z, h1] at n2; cases n2
      have hvl := hts2.length
      have ln := prt_len f (.app f ts)
      refine ⟨_, rfl, .inl ⟨⟨_, SqL.of h2⟩, for_list (xs := us) (fun i σ' H' => ∃ ws' x, σ' = [some (.ref qq), some (.ref a), some (.bl true), some (.ref r), x, none, none] ∧ H' r = some (.lst ws') ∧ TmsIn H' (cmbs cm ((prt f (.app f ts)).take i)) ws' ∧ But r H2 H') ?_ ?_ ?_ ?_⟩⟩
      · exact ⟨[], none, rfl, s2 _ _ h1, rfl, But.refl _ _⟩
      · rintro i σ' H' hi ⟨ws', x, rfl, hp, hu, b⟩
        exact SqL.of (b _ _ h2 ur)
      · rintro i y σ' H' hi ⟨ws', x, rfl, hp, hu, b⟩
        obtain ⟨t, gt, ht'⟩ := hts2.get hi
        have mt : t ∈ prt f (.app f ts) := List.mem_of_getElem? gt
        have hwl := hu.length
        rw [cmbs_map, List.length_map, List.length_take] at hwl
        walk_at "rd"
        refine ⟨.inl ⟨rfl, _, SqL.of hp⟩, ?_⟩
        walk_at "rd"
        have k' : Same H H' := b.same k12 n1
        refine ⟨qq, nl, fs, cm, B, y, t, rfl, k' _ _ hq, nl6, hcm, hn, h6, two, ht'.tu (but_tu b (lst_not_tup (s2 _ _ h1))), Tm.wf_of_mem (prt_wf f _ wt) mt, hB, by have := (prt_dep f _ t mt).2.1 (decide_eq_true rfl); have e : (Tm.app f ts).dep = 1 + Tm.deps ts := rfl; omega, by omega, by have := (prt_dep f _ t mt).2.2; omega, fun v' H4 b4 hv' => ?_⟩
        walk_at "rd"
        refine ⟨r, _, _, rfl, rfl, b4 _ _ hp, Nat.lt_of_le_of_lt (show ws'.length ≤ 10000 by omega) (by decide), ?_⟩
        have tr : Tu H4 (upd H4 r (.lst (ws' ++ [v']))) := tu_upd (lst_not_tup (b4 _ _ hp))
        refine ⟨_, _, rfl, upd_same, ?_, b.trans ((but_same b4).trans (but_upd _))⟩
        rw [list_take_succ gt, cmbs_app]
        exact (hu.tu ((tu_same b4).trans tr)).append (TmsIn.one (hv'.tu tr))
      · rintro σ' H' ⟨ws', x0, rfl, hp, hu, b⟩
        rw [hvl, List.take_length] at hu
        have k' : Same H H' := b.same k12 n1
        have ha' := k' _ _ ha
        rw [cmbs_prt] at hu
        obtain ⟨w1, z1, l1, c1⟩ := fln_ok two f hc (.app f ts) wt
        rw [fln_head] at w1 z1 l1 c1
        have okc := cmb_ok two (.app f ts) wt
        walk_at "rd"
        dsimp only [tNil, tCons, tC]
        refine sort_terms (us := flns cm f ts) hn hB (fun v t H' Q' ht mt hk => ?_) hp hu w1 (fun p2 ys H5 s5 np5 hp5 ht5 => ?_)
        · have := Tm.sz_arg mt
          exact ⟨v, t, fs, B, rfl, ht, by omega, hn, Tm.wf_of_mem w1 mt, hB, fun k H'' s h => hk k H'' s h⟩
        · have p := srtK_perm (flns cm f ts)
          have pl := p.length_eq
          have dne : flns cm f ts ≠ [] := fun z => by rw [z] at c1; have : 1 ≤ 0 := c1; omega
          have okl := okc
          have fl2 := Tm.len_le (flns cm f ts)
          rw [cmb_listed hc] at okc okl
          have eq0 : cmb cm (.app f ts) = fld f (srtK (flns cm f ts)) := cmb_listed hc
          generalize srtK (flns cm f ts) = l at p pl ht5 okc okl eq0
          have ylen := ht5.length
          have yne : ys ≠ [] := fun z => by rw [z] at ylen; have : 0 = l.length := ylen; omega
          have ll : l.length ≤ 10000 := by omega
          have yl : ys.dropLast ++ [ys.getLast yne] = ys := List.dropLast_concat_getLast yne
          have gy : ys[ys.length - 1]? = some (ys.getLast yne) := by rw [List.getLast_eq_getElem]; exact List.getElem?_eq_getElem _
          obtain ⟨tz, gz, hz⟩ := ht5.get gy
          generalize ys.getLast yne = vz at yl gy hz
          have lne : l ≠ [] := fun z => by rw [z] at gz; simp at gz
          have k5 := k'.trans s5
          have ha5 := k5 _ _ ha
          walk_at "rd"
          refine ⟨p2, ys, -1, vz, rfl, rfl, SqL.of hp5, yl ▸ atI_last _ _, ?_⟩
          walk_at "rd"
          refine ⟨p2, ys, rfl, SqL.of hp5, yne, ?_⟩
          first | intro p6 n6 | refine fun p6 n6 => ?_
          generalize ehn : upd H5 p6 _ = H6
          have s6 := J.al_same n6 ehn
          have h6 := J.al_at ehn
          clear ehn
          refine ⟨_, rfl, ⟨_, SqL.of h6⟩, for_list (xs := ys.dropLast.reverse) (fun i σ' H' => ∃ vr x, σ' = [some (.ref qq), some (.ref a), some (.bl true), some (.ref p2), x0, some vr, x] ∧ TmIn H' (fld f (l.drop (l.length - 1 - i))) vr ∧ Same H6 H') ?_ ?_ ?_ ?_⟩
          · refine ⟨vz, none, rfl, ?_, Same.refl _⟩
            rw [Nat.sub_zero, ← ylen, drop_at gz, List.drop_of_length_le (by omega)]
            exact hz.tu (tu_same s6)
          · rintro i σ' H' hi ⟨vr, x, rfl, hv, k⟩
            exact SqL.of (k _ _ h6)
          · rintro i y σ' H' hi ⟨vr, x, rfl, hv, k⟩
            obtain ⟨il, gi⟩ := back_get hi
            obtain ⟨ti, gti, hti⟩ := ht5.get gi
            rw [ylen] at il gti
            have hti' := hti.tu (tu_same (s6.trans k))
            have ha' := (s6.trans k) _ _ ha5
            have e1 : l.length - 1 - (i + 1) = l.length - 2 - i := by omega
            have e2 : l.length - 2 - i + 1 = l.length - 1 - i := by omega
            have ne2 : l.drop (l.length - 1 - i) ≠ [] := fun z => by
              have := congrArg List.length z
              rw [List.length_drop] at this
              have : l.length - (l.length - 1 - i) = 0 := this
              omega
            walk_at "rd"
            refine ⟨by show 3 ≤ sizeLine; decide, ?_⟩
            first | intro y7 n7 | refine fun y7 n7 => ?_
            generalize ehn : upd H' y7 _ = H7
            have s7 := J.al_same n7 ehn
            have h7 := J.al_at ehn
            clear ehn
            refine ⟨_, _, rfl, ?_, k.trans s7⟩
            rw [e1, drop_at gti, e2, fld_cons ne2]
            exact ⟨y7, _, rfl, h7, ⟨_, _, rfl, hti'.tu (tu_same s7), _, _, rfl, hv.tu (tu_same s7), rfl⟩⟩
          · rintro σ' H' ⟨vr, x, rfl, hv, k⟩
            rw [List.length_reverse, List.length_dropLast, ylen, Nat.sub_self, List.drop_zero, ← eq0] at hv
            walk_at "rd"
            exact q vr H' (k5.trans (s6.trans k)) hv

theorem all_u_combined (T : Tx K mg A) : ∀ N : Nat, FnOk P w K mg base CX0 (N + 5) A.a_u_combined A.d_u_combined ["operations", "term"] (sp_u_combined N)
  | 0 => fn_none fun vs H Q E h => by obtain ⟨qq, nl, fs, cm, B, v, t, _, _, _, _, _, _, _, _, _, _, hd, _⟩ := h; have := t.dep_pos; omega
  | N + 1 => st_u_combined T N (all_u_combined T N)
theorem ok_u_combined (T : Tx K mg A) : FnOk P w K mg base CX0 65 A.a_u_combined A.d_u_combined ["operations", "term"] (sp_u_combined 60) := all_u_combined T 60

/-! profile -/
theorem kidsOf_sz : ∀ l : List Tm, Tm.szs (kidsOf l) + l.length = Tm.szs l
  | [] => rfl
  | .var _ :: r => by
    have := kidsOf_sz r
    show Tm.szs (kidsOf r) + (r.length + 1) = 1 + Tm.szs r
    omega
  | .app _ ts :: r => by
    have := kidsOf_sz r
    show Tm.szs (ts ++ kidsOf r) + (r.length + 1) = (1 + Tm.szs ts) + Tm.szs r
    rw [szs_app]; omega
theorem deps_app : ∀ a b : List Tm, Tm.deps (a ++ b) = max (Tm.deps a) (Tm.deps b)
  | [], b => by show _ = max 0 _; simp
  | t :: a, b => by
    show max t.dep (Tm.deps (a ++ b)) = max (max t.dep (Tm.deps a)) (Tm.deps b)
    rw [deps_app a b]; omega
theorem kidsOf_dep : ∀ l : List Tm, l ≠ [] → Tm.deps l = 1 + Tm.deps (kidsOf l)
  | [], h => absurd rfl h
  | [.var _], _ => rfl
  | [.app _ ts], _ => by
    show max (1 + Tm.deps ts) 0 = 1 + Tm.deps (ts ++ [])
    rw [List.append_nil]; omega
  | .var _ :: u :: r, _ => by
    have := kidsOf_dep (u :: r) (List.cons_ne_nil _ _)
    show max 1 (Tm.deps (u :: r)) = 1 + Tm.deps (kidsOf (u :: r))
    omega
  | .app _ ts :: u :: r, _ => by
    have := kidsOf_dep (u :: r) (List.cons_ne_nil _ _)
    show max (1 + Tm.deps ts) (Tm.deps (u :: r)) = 1 + Tm.deps (ts ++ kidsOf (u :: r))
    rw [deps_app]; omega
theorem kidsOf_app : ∀ a b : List Tm, kidsOf (a ++ b) = kidsOf a ++ kidsOf b
  | [], _ => rfl
  | .var _ :: a, b => kidsOf_app a b
  | .app _ ts :: a, b => by show ts ++ kidsOf (a ++ b) = ts ++ kidsOf a ++ kidsOf b; rw [kidsOf_app a b, List.append_assoc]
def sp_profile : Sp := fun vs H Q _ => ∃ (v : V) (t : Tm), vs = [v] ∧ TmIn H t v ∧ t.sz ≤ 100000 ∧ ∀ p x tl H', Same H H' → H x = none → ProIn H' p t x tl → Q (.ref p) H'
theorem ok_profile (T : Tx K mg A) : FnOk P w K mg base CX0 (2) A.a_profile A.d_profile ["term"] sp_profile := by

  refine T.F_profile.ok sc_profile (fun vs H Q E h => ?_) (fun cdv Ar outer s0 H vs Q E hr h => ?_)
  · obtain ⟨v, t, rfl, _⟩ := h; rfl
  obtain ⟨v, t, rfl, ht, hz, q⟩ := h
  refine ⟨_, (pss_cons (ps_set (i := 1) sc_profile.nd rfl (Or.inl rfl) pe_int)
    (pss_cons (ps_set (i := 2) sc_profile.nd rfl (Or.inl rfl) pe_int)
    (pss_cons (ps_set (i := 3) sc_profile.nd rfl (Or.inl rfl) pe_dnewK)
    (pss_cons (ps_set (i := 4) sc_profile.nd rfl (Or.inl rfl) (pe_lst (pa_cons (pv 0) pa_nil)))
    (pss_cons (ps_while PassesOwn.never (pt_truth (pv 4) (by intro _; rfl)) (pss_cons (ps_aug (i := 2) sc_profile.nd rfl (Or.inl rfl) pe_int ip_add)
    (pss_cons (ps_aug (i := 1) sc_profile.nd rfl (Or.inl rfl) (pe_callB (r := rLenS K) j_len (by rfl) T.n_len PySem.boot_len (pa_cons (pv 4) pa_nil)) ip_add)
    (pss_cons (ps_set (i := 5) sc_profile.nd rfl (Or.inl rfl) (pe_lst pa_nil))
    (pss_cons (ps_for PassesOwn.never rfl (pi_list (pe_callTy (r := rListS K) j_list (by rfl) T.n_list boot_list (pa_cons (pv 4) pa_nil))) (pg_name (i := 6) sc_profile.nd rfl (Or.inl rfl)) (pss_one (ps_if (pt_val (pe_callB (r := rIsi K) call_isi (by rfl) T.n_isinstance boot_isinstance (pa_cons (pv 6) (pa_cons (pe_bltn (v := .ty "tuple") (by rfl) T.n_tuple boot_tuple rfl) pa_nil)))) (pss_one (ps_expr (pe_bm PySem.F.plainAttrs_list PySem.F.slot_list_extend PySem.F.type_list_extend (r := rExtT K) mt_extT (pv 5) (pa_cons (pe_slice (r := rSlT K) sl_tup (pv 6) (po_some pe_int) po_none) pa_nil)))) (pss_cons (ps_asg (pe_dget2 (hu_of hr) (pv 3) (pv 6) (pe_tup (pa_cons pe_int (pa_cons pe_int pa_nil))) ⟨by rfl, by rfl, by rfl, by rfl⟩) (pg_tup (by rfl) (pgs_cons (pg_name (i := 7) sc_profile.nd rfl (Or.inl rfl)) (pgs_cons (pg_name (i := 8) sc_profile.nd rfl (Or.inl rfl)) pgs_nil))))
    (pss_one (ps_dput (hu_of hr) (pv 3) (pv 6) (pe_tup (pa_cons (pe_op op_add (pv 7) pe_int) (pa_cons (pv 2) pa_nil))) rfl))))))
    (pss_one (ps_set (i := 4) sc_profile.nd rfl (Or.inl rfl) (pv 5))))))))
    (pss_one (ps_ret (pe_tup (pa_cons (pv 1) (pa_cons (pv 2) (pa_cons (pv 3) pa_nil))))))))))), ?_⟩
  dsimp only [tSeq, tAsg, tC, gName]
  first | intro d n1 | refine fun d n1 => ?_
  generalize ehn : upd H d _ = H1
  have s1 := J.al_same n1 ehn
  have h1 := J.al_at ehn
  clear ehn
  refine ⟨_, rfl, ?_⟩
  refine ⟨show 1 ≤ sizeLine by decide, ?_⟩
  first | intro p0 n2 | refine fun p0 n2 => ?_
  generalize ehn : upd H1 p0 _ = H2
  have s2 := J.al_same n2 ehn
  have h2 := J.al_at ehn
  clear ehn
  have hd2 := s2 _ _ h1
  have tu2 : Tu H H2 := tu_same (s1.trans s2)
  refine while_list (K := K) (fun σ' H' => ∃ (T L : Nat) (row : List Tm) (p : Addr) (ws : List V) (kvs : List (Key × V)) (tl : Tl) (ols : List (Int × Nat)) (x5 x6 x7 x8 : Option V), σ' = [some v, some (.int (T : Int)), some (.int (L : Int)), some (.ref d), some (.ref p), x5, x6, x7, x8] ∧ H' p = some (.lst ws) ∧ TmsIn H' row ws ∧ T + Tm.szs row = t.sz ∧ L + Tm.deps row = t.dep ∧ H' d = some (.dK kvs) ∧ TalIn H' kvs tl ∧ Tal L tl ols ∧ (ols ++ olvs (L + 1) row).Perm (olv 1 t) ∧ kvs.length ≤ T ∧ Same H H')
    (fun σ' H' => t.sz - (match (σ'[1]? : Option (Option V)) with | some (some (V.int T)) => T.toNat | _ => 0)) ?_ ?_
  · exact ⟨0, 0, [t], p0, [v], [], [], [], none, none, none, none, rfl, h2, TmsIn.one (ht.tu tu2), by show 0 + (t.sz + 0) = _; omega, by show 0 + max t.dep 0 = _; omega, hd2, trivial, Tal.nil, (by show ([] ++ (olv 1 t ++ [])).Perm _; rw [List.append_nil]; exact List.Perm.refl _), Nat.le_refl _, s1.trans s2⟩
  · rintro σ' H' ⟨T, L, row, p, ws, kvs, tl, ols, x5, x6, x7, x8, rfl, hp, hr', eT, eL, hd', sp, tal, per, hk, k⟩
    refine ⟨p, ws, rfl, hp, fun z => ?_, fun z => ?_⟩
    · subst z
      have : row = [] := List.length_eq_zero_iff.mp hr'.length.symm
      subst this
      have eT : T + 0 = t.sz := eT
      have eL : L + 0 = t.dep := eL
      walk_at "rd"
      refine ⟨show 3 ≤ sizeLine by decide, ?_⟩
      first | intro r n3 | refine fun r n3 => ?_
      generalize ehn : upd H' r _ = H3
      have s3 := J.al_same n3 ehn
      have h3 := J.al_at ehn
      clear ehn
      rw [← Nat.add_zero T, ← Nat.add_zero L, eT, eL] at h3
      have per : (ols ++ []).Perm (olv 1 t) := per
      rw [List.append_nil] at per
      have eL : L = t.dep := eL
      exact q r d tl H3 (k.trans s3) n1 ⟨h3, kvs, s3 _ _ hd', sp.tu (tu_same s3), eL ▸ tal.perm per⟩
    · have hwl := hr'.length
      have dp : d ≠ p := fun z => by rw [z, hp] at hd'; cases hd'
      walk_at "rd"
      refine ⟨show 0 ≤ sizeLine by decide, ?_⟩
      first | intro b nb | refine fun b nb => ?_
      generalize ehn : upd H' b _ = Hb
      have sb := J.al_same nb ehn
      have hb0 := J.al_at ehn
      clear ehn
      walk_at "rd"
      refine ⟨p, ws, rfl, .inl (SqL.of (sb _ _ hp)), ?_⟩
      first | intro c nc | refine fun c nc => ?_
      generalize ehn : upd Hb c _ = H3
      have sc := J.al_same nc ehn
      have hc3 := J.al_at ehn
      clear ehn
      have s3 : Same H' H3 := sb.trans sc
      have n3 : H' b = none := nb
      have h3 := sc _ _ hb0
      have cb : c ≠ b := fun z => by rw [z, hb0] at nc; cases nc
      have cd : c ≠ d := fun z => by rw [z, sb _ _ hd'] at nc; cases nc
      have k3 : Same H H3 := k.trans s3
      have b0 : H b = none := k.free n3
      have d0 : H d = none := n1
      have hp3 := s3 _ _ hp
      have hd3 := s3 _ _ hd'
      have hr3 := hr'.tu (tu_same s3)
      have sp3 := sp.tu (tu_same s3)
      have db : d ≠ b := fun z => by rw [z, n3] at hd'; cases hd'
      have pb : p ≠ b := fun z => by rw [z, n3] at hp; cases hp
      have hrl := Tm.len_le row
      refine ⟨_, rfl, ⟨_, SqL.of hc3⟩, for_list (K := K) (a := c) (xs := ws) (fun i σ' H4 => ∃ (bs : List V) (kvs : List (Key × V)) (tl : Tl) (x6 x7 x8 : Option V), σ' = [some v, some (.int ((T : Int) + ((ws.length : Nat) : Int))), some (.int ((L : Int) + 1)), some (.ref d), some (.ref p), some (.ref b), x6, x7, x8] ∧ H4 b = some (.lst bs) ∧ TmsIn H4 (kidsOf (row.take i)) bs ∧ H4 d = some (.dK kvs) ∧ TalIn H4 kvs tl ∧ Tal (L + 1) tl (ols ++ varsAt (L + 1) (row.take i)) ∧ kvs.length ≤ T + i ∧ (∀ a o, H3 a = some o → a ≠ d → a ≠ b → H4 a = some o)) ?_ ?_ ?_ ?_⟩
      · exact ⟨[], kvs, tl, x6, x7, x8, rfl, h3, rfl, hd3, sp3, (by show Tal _ _ (ols ++ []); rw [List.append_nil]; exact tal.mono (Nat.le_succ _)), hk, fun a o e _ _ => e⟩
      · rintro i σ' H4 hi ⟨bs, kvs, tl, x6, x7, x8, rfl, hb, hbs, hd, sp, tal, hk, f⟩
        exact SqL.of (f _ _ hc3 cd cb)
      · rintro i y σ' H4 hi ⟨bs, kvs, tl, x6, x7, x8, rfl, hb, hbs, hd, sp, tal, hk, f⟩
        obtain ⟨x, gx, hx⟩ := hr3.get hi
        have tu4 : Tu H3 H4 := fun a xs e => f a _ e (fun z => by rw [z, hd3] at e; cases e) fun z => by rw [z, h3] at e; cases e
        have hx4 := hx.tu tu4
        have ix : i < row.length := (List.getElem?_eq_some_iff.mp gx).1
        rw [list_take_succ gx, kidsOf_app, varsAt_app, ← List.append_assoc]
        cases x with
        | var n =>
          cases (show y = .int n from hx4)
          walk_at "ri"
          refine ⟨.inl ⟨_, .inl hd⟩, ?_⟩
          walk_at "rd"
          refine ⟨show 2 ≤ sizeLine by decide, ?_⟩
          first | intro e0 n5 | refine fun e0 n5 => ?_
          generalize ehn : upd H4 e0 _ = H5
          have s5 := J.al_same n5 ehn
          have h5 := J.al_at ehn
          clear ehn
          have hd5 := s5 _ _ hd
          have dg := DGet.k (k := Sum.inl n) hd5
          cases ev : valV kvs (Sum.inl n : Key) with
          | none =>
            rw [ev] at dg
            refine ⟨none, dg, ?_⟩
            refine ⟨e0, _, rfl, SqT.of h5, rfl, _, _, rfl, _, _, rfl, rfl, ?_⟩
            walk_at "rd"
            refine ⟨show 2 ≤ sizeLine by decide, ?_⟩
            first | intro g2 n6 | refine fun g2 n6 => ?_
            generalize ehn : upd H5 g2 _ = H6
            have s6 := J.al_same n6 ehn
            have h6 := J.al_at ehn
            clear ehn
            have hd6 := s6 _ _ hd5
            walk_at "rd"
            refine ⟨d, _, rfl, DPut.k (k := Sum.inl n) hd6 (Nat.lt_of_le_of_lt (show kvs.length ≤ 200000 by omega) (by decide)), ?_⟩
            generalize ehn : upd H6 d _ = H7
            have b7 := J.al_but ehn
            have h7 := J.al_at ehn
            clear ehn
            have tu7 : Tu H6 H7 := but_tu b7 fun xs e => by rw [hd6] at e; cases e
            have tu47 : Tu H4 H7 := (tu_same s5).trans ((tu_same s6).trans tu7)
            refine ⟨bs, _, _, _, _, _, rfl, b7 _ _ (s6 _ _ (s5 _ _ hb)) db.symm, ?_, h7, (sp.tu (tu_same s5)).put (L := L + 1) (c := 1) ((tu_same s6).trans tu7) (tu7 _ _ h6) (fun x hx e => absurd (List.mem_map.mpr ⟨x, hx, e⟩) (sp.hasnt n ev)) (fun _ => rfl), tal.put n (Nat.succ_pos _), Nat.le_trans (length_putK _ _ _) (by omega), fun a o e ne1 ne2 => b7 a o (s6 _ _ (s5 _ _ (f a o e ne1 ne2))) ne1⟩
            show TmsIn H7 (kidsOf (row.take i) ++ []) bs
            rw [List.append_nil]
            exact hbs.tu tu47
          | some v0 =>
            rw [ev] at dg
            obtain ⟨c0, l0, a0, rfl, ha0, hm0, hu0⟩ := TalIn.has n tal.nd sp ev
            refine ⟨some (.ref a0), dg, ?_⟩
            refine ⟨a0, _, rfl, SqT.of (s5 _ _ ha0), rfl, _, _, rfl, _, _, rfl, rfl, ?_⟩
            walk_at "rd"
            refine ⟨show 2 ≤ sizeLine by decide, ?_⟩
            first | intro g2 n6 | refine fun g2 n6 => ?_
            generalize ehn : upd H5 g2 _ = H6
            have s6 := J.al_same n6 ehn
            have h6 := J.al_at ehn
            clear ehn
            have hd6 := s6 _ _ hd5
            walk_at "rd"
            refine ⟨d, _, rfl, DPut.k (k := Sum.inl n) hd6 (Nat.lt_of_le_of_lt (show kvs.length ≤ 200000 by omega) (by decide)), ?_⟩
            generalize ehn : upd H6 d _ = H7
            have b7 := J.al_but ehn
            have h7 := J.al_at ehn
            clear ehn
            have tu7 : Tu H6 H7 := but_tu b7 fun xs e => by rw [hd6] at e; cases e
            have tu47 : Tu H4 H7 := (tu_same s5).trans ((tu_same s6).trans tu7)
            refine ⟨bs, _, _, _, _, _, rfl, b7 _ _ (s6 _ _ (s5 _ _ hb)) db.symm, ?_, h7, (sp.tu (tu_same s5)).put (L := L + 1) (c := c0 + 1) ((tu_same s6).trans tu7) (tu7 _ _ h6) (fun x hx e => by rw [hu0 x hx e]) (fun z => absurd (List.mem_map.mpr ⟨_, hm0, rfl⟩) z), tal.put n (Nat.succ_pos _), Nat.le_trans (length_putK _ _ _) (by omega), fun a o e ne1 ne2 => b7 a o (s6 _ _ (s5 _ _ (f a o e ne1 ne2))) ne1⟩
            show TmsIn H7 (kidsOf (row.take i) ++ []) bs
            rw [List.append_nil]
            exact hbs.tu tu47
        | app g ts =>
          obtain ⟨c, us, rfl, hc, hts⟩ := hx4
          have hbl := hbs.length
          have hul := hts.length
          have kz := kidsOf_sz (row.take i)
          have tz := szs_take row i
          have kl := Tm.len_le (kidsOf (row.take i))
          have tzl := Tm.len_le ts
          have xz := Tm.sz_arg (List.mem_of_getElem? gx)
          have xz : 1 + Tm.szs ts ≤ Tm.szs row := xz
          walk_at "ri"
          refine ⟨.inl ⟨rfl, _, SqL.of hb⟩, ?_⟩
          walk_at "rd"
          walk_at "sl1"
          first | intro y5 n5 | refine fun y5 n5 => ?_
          generalize ehn : upd H4 y5 _ = H5
          have s5 := J.al_same n5 ehn
          have h5 := J.al_at ehn
          clear ehn
          have hb5 := s5 _ _ hb
          refine ⟨b, y5, _, _, rfl, rfl, hb5, SqT.of h5, ?_, ?_⟩
          · exact Nat.le_trans (show bs.length + us.length ≤ 200000 by omega) (by decide)
          generalize ehn : upd H5 b _ = H6
          have b6 := J.al_but ehn
          have h6 := J.al_at ehn
          clear ehn
          have tu6 : Tu H5 H6 := but_tu b6 (lst_not_tup hb5)
          have tu46 : Tu H4 H6 := (tu_same s5).trans tu6
          refine ⟨_, kvs, tl, _, _, _, rfl, h6, ?_, b6 _ _ (s5 _ _ hd) db, sp.tu tu46, (by show Tal _ _ (_ ++ []); rw [List.append_nil]; exact tal), by omega, fun a o e ne1 ne2 => b6 a o (s5 _ _ (f a o e ne1 ne2)) ne2⟩
          show TmsIn H6 (kidsOf (row.take i) ++ (ts ++ [])) _
          rw [List.append_nil]
          exact (hbs.tu tu46).append (hts.tu tu46)
      · rintro σ' H4 ⟨bs, kvs, tl, x6, x7, x8, rfl, hb, hbs, hd, sp, tal, hk, f⟩
        rw [hwl, List.take_length] at hbs tal
        have per2 : (ols ++ varsAt (L + 1) row ++ olvs (L + 1 + 1) (kidsOf row)).Perm (olv 1 t) := by rw [List.append_assoc]; exact ((row_perm (L + 1) row).append_left ols).trans per
        have e1 := kidsOf_sz row
        have e2 := kidsOf_dep row fun z => by rw [z] at hwl; exact ‹ws ≠ []› (List.length_eq_zero_iff.mp hwl)
        have hne : 0 < ws.length := List.length_pos_iff.mpr ‹ws ≠ []›
        walk_at "rd"
        refine ⟨⟨T + ws.length, L + 1, kidsOf row, b, bs, kvs, tl, _, _, _, _, _, rfl, hb, hbs, by omega, by omega, hd, sp, tal, per2, by omega, fun a o e => f a o (k3 a o e) (fun z => by rw [z, d0] at e; cases e) fun z => by rw [z, b0] at e; cases e⟩, ?_⟩
        show t.sz - ((T : Int) + ((ws.length : Nat) : Int)).toNat < t.sz - ((T : Int)).toNat
        omega

/-! measure -/
def sp_measure : Sp := fun vs H Q _ => ∃ (v : V) (t : Tm), vs = [v] ∧ TmIn H t v ∧ t.sz ≤ 100000 ∧ ∀ p H', Same H H' → H' p = some (.tup [.int (t.sz : Int), .int (t.dep : Int)]) → Q (.ref p) H'
theorem ok_measure (T : Tx K mg A) : FnOk P w K mg base CX0 (3) A.a_measure A.d_measure ["term"] sp_measure := by
  have G_profile := ok_profile (P := P) (w := w) (base := base) T
  refine T.F_measure.ok sc_measure (fun vs H Q E h => ?_) (fun cdv Ar outer s0 H vs Q E hr h => ?_)
  · obtain ⟨v, t, rfl, _⟩ := h; rfl
  obtain ⟨v, t, rfl, ht, hz, q⟩ := h
  refine ⟨_, (pss_cons (ps_asg (pe_call G_profile (hr.mono (by omega)) rfl T.m_profile T.F_profile.kp T.b_profile .nil pass0 (pa_cons (pv 0) pa_nil)) (pg_tup (by rfl) (pgs_cons (pg_name (i := 1) sc_measure.nd rfl (Or.inl rfl)) (pgs_cons (pg_name (i := 2) sc_measure.nd rfl (Or.inl rfl)) (pgs_cons (pg_name (i := 3) sc_measure.nd rfl (Or.inl rfl)) pgs_nil)))))
    (pss_one (ps_ret (pe_tup (pa_cons (pv 1) (pa_cons (pv 2) pa_nil)))))), ?_⟩
  walk_at "rd"
  refine ⟨v, t, rfl, ht, hz, fun p x tl H1 s1 _ hp1 => ?_⟩
  have h1 := hp1.1
  refine ⟨p, _, rfl, SqT.of h1, rfl, _, _, rfl, _, _, rfl, _, _, rfl, rfl, ?_⟩
  walk_at "rd"
  refine ⟨show 2 ≤ sizeLine by decide, ?_⟩
  first | intro r n2 | refine fun r n2 => ?_
  generalize ehn : upd H1 r _ = H2
  have s2 := J.al_same n2 ehn
  have h2 := J.al_at ehn
  clear ehn
  exact q r H2 (s1.trans s2) h2

/-! is_within -/
def within (a b : Int) : Bool := decide (a ≤ 400) && decide (b ≤ 30)
def sp_is_within : Sp := fun vs H Q _ => ∃ a b : Int, vs = [.int a, .int b] ∧ Q (.bl (within a b)) H
theorem ok_is_within (T : Tx K mg A) : FnOk P w K mg base CX0 (1) A.a_is_within A.d_is_within ["total", "deepest"] sp_is_within := by
  obtain ⟨tk_MAX_DEPTH, c_MAX_DEPTH⟩ := T.c_MAX_DEPTH
  obtain ⟨tk_MAX_SIZE, c_MAX_SIZE⟩ := T.c_MAX_SIZE
  refine T.F_is_within.ok sc_is_within (fun vs H Q E h => ?_) (fun cdv Ar outer s0 H vs Q E hr h => ?_)
  · obtain ⟨a, b, rfl, _⟩ := h; rfl
  obtain ⟨a, b, rfl, q⟩ := h
  refine ⟨_, (pss_one (ps_ret (pe_and (pe_cmpR op_le (pv 0) (pe_glob (v := .int 400) rfl c_MAX_SIZE ⟨_, rfl⟩) (nomark _)) (pe_one (pe_cmpR op_le (pv 1) (pe_glob (v := .int 30) rfl c_MAX_DEPTH ⟨_, rfl⟩) (nomark _)))))), ?_⟩
  walk_at "rd"
  unfold within at q
  cases e : decide (a ≤ 400) with
  | true =>
    rw [e] at q
    rw [if_pos rfl]
    walk_at "rd"
    exact q
  | false =>
    rw [e] at q
    exact q

/-! check_size -/
def sp_check_size (C : Addr) : Sp := fun vs H Q E => ∃ (v : V) (t : Tm), vs = [v] ∧ TmIn H t v ∧ t.sz ≤ 100000 ∧ (within t.sz t.dep = true → ∀ H', Same H H' → Q .non H') ∧ (within t.sz t.dep = false → ∀ H', Same H H' → E (.ref C) none H')
theorem ok_check_size (T : Tx K mg A) : FnOk P w K mg base (L2.CX P w) 5 A.a_check_size A.d_check_size ["term"] (sp_check_size A.c_TooLarge) := by
  have G_is_within := ok_is_within (P := P) (w := w) (base := base) T
  have G_measure := ok_measure (P := P) (w := w) (base := base) T
  refine T.F_check_size.okX sc_check_size (fun vs H Q E h => ?_) (fun cdv Ar outer s0 H vs Q E hr h => ?_)
  · obtain ⟨v, t, rfl, _⟩ := h; rfl
  obtain ⟨v, t, rfl, ht, hz, q1, q2⟩ := h
  refine ⟨_, (pss_cons (ps_asg (pe_call G_measure (hr.mono (by omega)) rfl T.m_measure T.F_measure.kp T.b_measure .nil pass0 (pa_cons (pv 0) pa_nil)) (pg_tup (by rfl) (pgs_cons (pg_name (i := 1) sc_check_size.nd rfl (Or.inl rfl)) (pgs_cons (pg_name (i := 2) sc_check_size.nd rfl (Or.inl rfl)) pgs_nil))))
    (pss_one (ps_if (pt_not (pt_truth (pe_call G_is_within (hr.mono (by omega)) rfl T.m_is_within T.F_is_within.kp T.b_is_within .nil pass0 (pa_cons (pv 1) (pa_cons (pv 2) pa_nil))) (by intro _; rfl))) (pss_one (ps_raise rfl (takes_of rfl rfl rfl rfl) (pmk_own0 PySem.F.excBase_ValueError T.E_TooLarge.xC T.E_TooLarge.gC T.E_TooLarge.kC (raises_own T.E_TooLarge.bC T.E_TooLarge.tC) rfl))) pss_nil))), ?_⟩
  walk_at "rd"
  refine ⟨v, t, rfl, ht, hz, fun p H1 s1 h1 => ?_⟩
  refine ⟨p, _, rfl, SqT.of h1, rfl, _, _, rfl, _, _, rfl, rfl, ?_⟩
  walk_at "rd"
  refine ⟨(t.sz : Int), (t.dep : Int), rfl, ?_⟩
  cases e : within t.sz t.dep with
  | true =>
    walk_at "rd"
    exact q1 e _ s1
  | false =>
    walk_at "rd"
    exact q2 e _ s1

/-! combined_form -/
def sp_combined_form (C : Addr) : Sp := fun vs H Q E => ∃ (q : Addr) (nl fs : List Str) (cm : Str → Bool) (B : Int) (v : V) (t : Tm), vs = [.ref q, v] ∧ H q = some (.lst (nl.map V.str)) ∧ nl.length ≤ 6 ∧ (∀ f, cm f = decide (f ∈ nl)) ∧ Names fs ∧ fs.length ≤ 6 ∧ (∀ (k : Nat) (f : Str), fs[k]? = some f → cm f = true → ar k = 2) ∧ TmIn H t v ∧ t.wf fs B ∧ B ≤ 100 ∧ t.dep ≤ 60 ∧ t.sz ≤ 10000 ∧
  (within (cmb cm t).sz (cmb cm t).dep = true → ∀ v' H', Same H H' → TmIn H' (cmb cm t) v' → Q v' H') ∧ (within (cmb cm t).sz (cmb cm t).dep = false → ∀ H', Same H H' → E (.ref C) none H')
theorem ok_combined_form (T : Tx K mg A) : FnOk P w K mg base (L2.CX P w) 67 A.a_combined_form A.d_combined_form ["operations", "term"] (sp_combined_form A.c_TooLarge) := by
  have G_check_size := ok_check_size (P := P) (w := w) (base := base) T
  have G_u_combined := ok_u_combined (P := P) (w := w) (base := base) T
  refine T.F_combined_form.okX sc_combined_form (fun vs H Q E h => ?_) (fun cdv Ar outer s0 H vs Q E hr h => ?_)
  · obtain ⟨q, nl, fs, cm, B, v, t, rfl, _⟩ := h; rfl
  obtain ⟨q, nl, fs, cm, B, v, t, rfl, hq, nl6, hcm, hn, h6, two, ht, wt, hB, dt, zt, q1, q2⟩ := h
  refine ⟨_, (pss_cons (ps_set (i := 2) sc_combined_form.nd rfl (Or.inl rfl) (pe_call G_u_combined (hr.mono (by omega)) rfl T.m_u_combined T.F_u_combined.kp T.b_u_combined .nil pass0 (pa_cons (pv 0) (pa_cons (pv 1) pa_nil))))
    (pss_cons (ps_expr (pe_call G_check_size (hr.mono (by omega)) rfl T.m_check_size T.F_check_size.kp T.b_check_size .nil (passes_call (takes_of rfl rfl rfl rfl) fun _ _ _ _ h => h) (pa_cons (pv 2) pa_nil)))
    (pss_one (ps_ret (pv 2))))), ?_⟩
  have okc := cmb_ok two t wt
  walk_at "rd"
  refine ⟨q, nl, fs, cm, B, v, t, rfl, hq, nl6, hcm, hn, h6, two, ht, wt, hB, dt, by omega, zt, fun v' H1 s1 hv => ?_⟩
  walk_at "rd"
  refine ⟨v', cmb cm t, rfl, hv, by rw [okc.sz]; omega, fun e H2 s2 => ?_, fun e H2 s2 => q2 e _ (s1.trans s2)⟩
  walk_at "rd"
  exact q1 e _ _ (s1.trans s2) (hv.tu (tu_same s2))

/-! are_combined_alike -/
def sp_are_combined_alike : Sp := fun vs H Q _ => ∃ (q : Addr) (nl fs : List Str) (cm : Str → Bool) (B : Int) (v u : V) (t r : Tm), vs = [.ref q, v, u] ∧ H q = some (.lst (nl.map V.str)) ∧ nl.length ≤ 6 ∧ (∀ f, cm f = decide (f ∈ nl)) ∧ Names fs ∧ fs.length ≤ 6 ∧ (∀ (k : Nat) (f : Str), fs[k]? = some f → cm f = true → ar k = 2) ∧ TmIn H t v ∧ TmIn H r u ∧ t.wf fs B ∧ r.wf fs B ∧ B ≤ 100 ∧ t.lu ≤ 30 ∧ r.lu ≤ 30 ∧ t.sz ≤ 400 ∧ r.sz ≤ 400 ∧
  ∀ b H', Same H H' → (b = true ↔ cmb cm t = cmb cm r) → Q (.bl b) H'
theorem ok_are_combined_alike (T : Tx K mg A) : FnOk P w K mg base CX0 (70) A.a_are_combined_alike A.d_are_combined_alike ["operations", "first", "second"] sp_are_combined_alike := by
  have G_combined_form := ok_combined_form (P := P) (w := w) (base := base) T
  refine T.F_are_combined_alike.ok sc_are_combined_alike (fun vs H Q E h => ?_) (fun cdv Ar outer s0 H vs Q E hr h => ?_)
  · obtain ⟨q, nl, fs, cm, B, v, u, t, r, rfl, _⟩ := h; rfl
  obtain ⟨qn, nl, fs, cm, B, v, u, t, r, rfl, hq, nl6, hcm, hn, h6, two, ht, hr', wt, wr, hB, lt, lr, zt, zr, q⟩ := h
  refine ⟨_, (pss_one (ps_ret (pe_cmpR (r := rEqD K) (op_eqD hr.units) (pe_callS G_combined_form (hr.mono (by omega)) rfl T.m_combined_form T.F_combined_form.kp T.b_combined_form no_raise (pa_cons (pv 0) (pa_cons (pv 1) pa_nil))) (pe_callS G_combined_form (hr.mono (by omega)) rfl T.m_combined_form T.F_combined_form.kp T.b_combined_form no_raise (pa_cons (pv 0) (pa_cons (pv 2) pa_nil))) (nomark _)))), ?_⟩
  have wn : ∀ x : Tm, x.wf fs B → x.lu ≤ 30 → x.sz ≤ 400 → within ((cmb cm x).sz : Int) ((cmb cm x).dep : Int) = true ∧ (cmb cm x).dep ≤ 30 := fun x wx lx zx => by
    have ok := cmb_ok two x wx
    have d := Tm.dep_lu (cmb cm x)
    have e1 := ok.lu
    have e2 := ok.sz
    refine ⟨?_, by omega⟩
    show (decide (((cmb cm x).sz : Int) ≤ 400) && decide (((cmb cm x).dep : Int) ≤ 30)) = true
    rw [decide_eq_true (by omega), decide_eq_true (by omega)]; rfl
  have dt := Tm.dep_lu t
  have dr := Tm.dep_lu r
  walk_at "rd"
  refine ⟨qn, nl, fs, cm, B, v, t, rfl, hq, nl6, hcm, hn, h6, two, ht, wt, hB, by omega, by omega, fun _ v2 H1 s1 hv => ?_, fun e => by rw [(wn t wt lt zt).1] at e; cases e⟩
  walk_at "rd"
  refine ⟨qn, nl, fs, cm, B, u, r, rfl, s1 _ _ hq, nl6, hcm, hn, h6, two, hr'.tu (tu_same s1), wr, hB, by omega, by omega, fun _ u2 H2 s2 hu => ?_, fun e => by rw [(wn r wr lr zr).1] at e; cases e⟩
  have okt := cmb_ok two t wt
  have okr := cmb_ok two r wr
  have d1 := (wn t wt lt zt).2
  have d2 := (wn r wr lr zr).2
  refine ⟨tmD (cmb cm t), tmD (cmb cm r), tmD_dp _ _ (hv.tu (tu_same s2)), tmD_dp _ _ hu, tmD_shaped hn okt.wf (by omega), tmD_shaped hn okr.wf (by omega), ?_⟩
  exact q _ _ (s1.trans s2) (tmD_eqv _ _)

/-! _law_spoilt -/
def sp_u_law_spoilt : Sp := fun vs H Q _ => ∃ (s l o : Addr) (fs : List Str) (B C : Int) (v : V) (t : Tm), vs = [.ref s, .ref o, .int B, v] ∧ St H s l ∧ Ops6 H o fs ∧ 0 ≤ B ∧ B ≤ C ∧ B ≤ 1000 ∧ TmIn H t v ∧ t.wf fs C ∧ t.sz ≤ 9000 ∧ t.dep ≤ 50 ∧
  ∀ r u H', But s H H' → St H' s l → TmIn H' u r → u.wf fs C → u.sz ≤ t.sz + 4 → u.dep ≤ t.dep + 2 → u.lu ≤ t.lu + 2 → Q r H'
theorem ok_u_law_spoilt (T : Tx K mg A) : FnOk P w K mg base CX0 (62) A.a_u_law_spoilt A.d_u_law_spoilt ["state", "operations", "count", "term"] sp_u_law_spoilt := by
  have G_u_law_draw := ok_u_law_draw (P := P) (w := w) (base := base) T
  have G_u_law_positions := ok_u_law_positions (P := P) (w := w) (base := base) T
  have G_u_law_replace := ok_u_law_replace (P := P) (w := w) (base := base) T
  have G_u_law_term := ok_u_law_term (P := P) (w := w) (base := base) T
  refine T.F_u_law_spoilt.ok sc_u_law_spoilt (fun vs H Q E h => ?_) (fun cdv Ar outer s0 H vs Q E hr h => ?_)
  · obtain ⟨s, l, o, fs, B, C, v, t, rfl, _⟩ := h; rfl
  obtain ⟨s, l, o, fs, B, C, v, t, rfl, st, op, B0, BC, B1, ht, wt, zt, dt, q0⟩ := h
  refine ⟨_, (pss_cons (ps_set (i := 4) sc_u_law_spoilt.nd rfl (Or.inl rfl) (pe_call G_u_law_positions (hr.mono (by omega)) rfl T.m_u_law_positions T.F_u_law_positions.kp T.b_u_law_positions .nil pass0 (pa_cons (pv 3) pa_nil)))
    (pss_cons (ps_set (i := 5) sc_u_law_spoilt.nd rfl (Or.inl rfl) (pe_ix (r := rIxL K) ix_list (pv 4) (pe_call G_u_law_draw (hr.mono (by omega)) rfl T.m_u_law_draw T.F_u_law_draw.kp T.b_u_law_draw .nil pass0 (pa_cons (pv 0) (pa_cons (pe_callB (r := rLenS K) j_len (by rfl) T.n_len PySem.boot_len (pa_cons (pv 4) pa_nil)) pa_nil))) (fun _ _ => rfl)))
    (pss_one (ps_ret (pe_call G_u_law_replace (hr.mono (by omega)) rfl T.m_u_law_replace T.F_u_law_replace.kp T.b_u_law_replace .nil pass0 (pa_cons (pv 3) (pa_cons (pv 5) (pa_cons (pe_call G_u_law_term (hr.mono (by omega)) rfl T.m_u_law_term T.F_u_law_term.kp T.b_u_law_term .nil pass0 (pa_cons (pv 0) (pa_cons (pv 1) (pa_cons (pv 2) (pa_cons pe_int pa_nil))))) pa_nil)))))))), ?_⟩
  have tz := t.sz_pos
  walk_at "rd"
  refine ⟨v, t, rfl, ht, by omega, by omega, fun pl H1 s1 n1 h1 => ?_⟩
  obtain ⟨ps, hp, hl, hg⟩ := h1
  have h1 : PosIn H1 pl (poss t) := ⟨ps, hp, hl, hg⟩
  have plen := poss_len t
  have st1 := st.same s1
  have op1 := op.same s1
  have pls : pl ≠ s := (st.free n1).1.symm
  iterate 3 refine ⟨_, rfl, ?_⟩
  refine ⟨pl, _, rfl, .inl (SqL.of hp), ?_⟩
  rw [List.length_map, hl, plen]
  walk_at "rd"
  refine ⟨s, l, (t.sz : Int), rfl, st1, by omega, by omega, fun k H2 k0 k1 b2 st2 => ?_⟩
  have tu12 := st1.tu b2
  have op2 := op1.but st1 b2
  obtain ⟨k, rfl⟩ := Int.eq_ofNat_of_zero_le k0
  have hk : k < (poss t).length := by omega
  obtain ⟨xs, pa, q, g1, g2, g3, g4, g5⟩ := h1.get hk
  refine ⟨pl, xs, _, _, rfl, rfl, SqL.of (b2 _ _ g1 pls), atI_nat g3, ?_⟩
  obtain ⟨ip, il⟩ := poss_is t q (List.mem_of_getElem? g4)
  obtain ⟨c0, hc0⟩ := (isPos_at q t).mp ip
  have g6 := tu12 _ _ g5
  have ht2 := ht.tu ((tu_same s1).trans tu12)
  have b02 : But s H H2 := (but_same s1).trans b2
  walk_at "rd"
  refine ⟨s, l, o, fs, B, 1, by omega, rfl, st2, op2, B0, by omega, fun wv W H3 b3 st3 hW wW dW zW => ?_⟩
  have zW : W.sz ≤ 4 := by have e : (3 : Nat) ^ (1 + 1) = 9 := rfl; omega
  have dW : W.dep ≤ 2 := dW
  have tu3 := st2.tu b3
  have rz := rep_sz W q t c0 hc0
  have rd := (rep_dep W q t ip).1
  have rl := rep_lu W q t c0 hc0
  have cp := Tm.lu_pos c0
  have lw := lu_dep (by rw [op.2.1]; decide) W wW
  have p9 : 3 ^ W.dep ≤ 3 ^ 2 := Nat.pow_le_pow_right (by decide) dW
  have p9 : 3 ^ W.dep ≤ 9 := p9
  refine ⟨v, wv, t, W, pa, q, rfl, ht2.tu tu3, hW, tu3 _ _ g6, ip, by omega, by omega, fun r H4 s4 hr => ?_⟩
  exact q0 r _ H4 (b02.trans (b3.trans (but_same s4))) (st3.same s4) hr (rep_wf (wW.mono BC) q t wt ip) (by omega) (by omega) (by omega)

/-! _law_flat -/
/-- what a combined form is told of -/
structure CbIn (H : Hp) (q : Addr) (nl fs : List Str) (cm : Str → Bool) (B : Int) (v : V) (t : Tm) : Prop where
  hq : H q = some (.lst (nl.map V.str))
  nl6 : nl.length ≤ 6
  hcm : ∀ f, cm f = decide (f ∈ nl)
  hn : Names fs
  h6 : fs.length ≤ 6
  two : ∀ (k : Nat) (f : Str), fs[k]? = some f → cm f = true → ar k = 2
  ht : TmIn H t v
  wt : t.wf fs B
  hB : B ≤ 100
  lu : t.lu ≤ 60
  zt : t.sz ≤ 10000
def sp_u_law_flat (M : Nat) : Sp := fun vs H Q _ => ∃ (q : Addr) (g : Str) (nl fs : List Str) (cm : Str → Bool) (B : Int) (v : V) (t : Tm), vs = [.ref q, .str g, v] ∧ CbIn H q nl fs cm B v t ∧ cm g = true ∧ (hd g t = true → 3 * t.dep ≤ M) ∧ (hd g t = false → 3 * t.dep + 2 ≤ M) ∧ M ≤ 200 ∧
  ∀ p ws H', Same H H' → H p = none → H' p = some (.lst ws) → TmsIn H' (fln cm g t) ws → Q (.ref p) H'
def sp_u_law_combined (M : Nat) : Sp := fun vs H Q _ => ∃ (q : Addr) (nl fs : List Str) (cm : Str → Bool) (B : Int) (v : V) (t : Tm), vs = [.ref q, v] ∧ CbIn H q nl fs cm B v t ∧ 3 * t.dep + 1 ≤ M ∧ M ≤ 200 ∧
  ∀ v' H', Same H H' → TmIn H' (cmb cm t) v' → Q v' H'
theorem st_u_law_flat (T : Tx K mg A) (M : Nat) (G_u_law_combined : FnOk P w K mg base CX0 (M + 65) A.a_u_law_combined A.d_u_law_combined ["names", "term"] (sp_u_law_combined M)) (G_u_law_flat : FnOk P w K mg base CX0 (M + 65) A.a_u_law_flat A.d_u_law_flat ["names", "name", "term"] (sp_u_law_flat M)) : FnOk P w K mg base CX0 (M + 66) A.a_u_law_flat A.d_u_law_flat ["names", "name", "term"] (sp_u_law_flat (M + 1)) := by

  refine T.F_u_law_flat.ok sc_u_law_flat (fun vs H Q E h => ?_) (fun cdv Ar outer s0 H vs Q E hr h => ?_)
  · obtain ⟨qq, g, nl, fs, cm, B, v, t, rfl, _⟩ := h; rfl
  obtain ⟨qq, g, nl, fs, cm, B, v, t, rfl, ci, cg, m1, m2, hM, q⟩ := h
  refine ⟨_, (pss_cons (ps_if (PW.pt (pw_or (pt_val (pe_callB (r := rIsi K) call_isi (by rfl) T.n_isinstance boot_isinstance (pa_cons (pv 2) (pa_cons (pe_bltn (v := .ty "int") (by rfl) T.n_int boot_int rfl) pa_nil)))) (pw_or1 (pt_cmpR op_ne (pe_ix (r := rIxT K) ix_tup (pv 2) pe_int (fun _ _ => rfl)) (pv 1) (nomark _))))) (pss_one (ps_ret (pe_lst (pa_cons (pe_call G_u_law_combined (hr.mono (by omega)) rfl T.m_u_law_combined T.F_u_law_combined.kp T.b_u_law_combined .nil pass0 (pa_cons (pv 0) (pa_cons (pv 2) pa_nil))) pa_nil)))) pss_nil)
    (pss_one (ps_ret (pe_op op_cat (pe_call G_u_law_flat (hr.mono (by omega)) rfl T.m_u_law_flat T.F_u_law_flat.kp T.b_u_law_flat .nil pass0 (pa_cons (pv 0) (pa_cons (pv 1) (pa_cons (pe_ix (r := rIxT K) ix_tup (pv 2) pe_int (fun _ _ => rfl)) pa_nil)))) (pe_call G_u_law_flat (hr.mono (by omega)) rfl T.m_u_law_flat T.F_u_law_flat.kp T.b_u_law_flat .nil pass0 (pa_cons (pv 0) (pa_cons (pv 1) (pa_cons (pe_ix (r := rIxT K) ix_tup (pv 2) pe_int (fun _ _ => rfl)) pa_nil)))))))), ?_⟩
  have ht := ci.ht
  have zp := ci.zt
  have one : hd g t = false → ∀ (pp : Addr) (v' : V) (H1 : Hp), Same H H1 → TmIn H1 (cmb cm t) v' → H1 pp = none → Q (.ref pp) (upd H1 pp (.lst [v'])) := fun hh pp v' H1 s1 hv np => by
    have sn := same_new np (.lst [v'])
    refine q pp [v'] _ (s1.trans sn) (s1.free np) upd_same ?_
    rw [fln_other hh]
    exact TmsIn.one (hv.tu (tu_same sn))
  cases t with
  | var n =>
    cases (show v = .int n from ht)
    walk_at "ri"
    refine ⟨qq, nl, fs, cm, B, .int n, .var n, rfl, ci, by have := m2 rfl; omega, by omega, fun v' H1 s1 hv => ?_⟩
    walk_at "rd"
    exact ⟨show 1 ≤ sizeLine by decide, fun pp np => one rfl pp v' H1 s1 hv np⟩
  | app f ts =>
    obtain ⟨a, vs, rfl, ha, hts⟩ := id ht
    walk_at "ri"
    refine ifNeS (fun e => ?_) (fun e => ?_)
    · have hh : hd g (.app f ts) = false := decide_eq_false e
      walk_at "rd"
      refine ⟨qq, nl, fs, cm, B, .ref a, .app f ts, rfl, ci, by have := m2 hh; omega, by omega, fun v' H1 s1 hv => ?_⟩
      walk_at "rd"
      exact ⟨show 1 ≤ sizeLine by decide, fun pp np => one hh pp v' H1 s1 hv np⟩
    · subst e
      obtain ⟨⟨kk, hk, hl2⟩, wts⟩ := (show (∃ k, fs[k]? = some f ∧ ts.length = ar k) ∧ Tm.wfs fs B ts from ci.wt)
      rw [ci.two kk f hk cg] at hl2
      obtain ⟨t1, t2, rfl⟩ : ∃ a b, ts = [a, b] := match ts, hl2 with | [a, b], _ => ⟨a, b, rfl⟩
      obtain ⟨v1, r1, rfl, ht1, v2, r2, rfl, ht2, er2⟩ := hts
      cases (show r2 = [] from er2)
      have md := m1 (decide_eq_true rfl)
      have ed : (Tm.app f [t1, t2]).dep = 1 + max t1.dep (max t2.dep 0) := rfl
      have ez : (Tm.app f [t1, t2]).sz = 1 + (t1.sz + (t2.sz + 0)) := rfl
      have el : (Tm.app f [t1, t2]).lu = (t1.lu + (t2.lu + 0)) + 0 := rfl
      have lu := ci.lu
      have c1 : CbIn H qq nl fs cm B v1 t1 := ⟨ci.hq, ci.nl6, ci.hcm, ci.hn, ci.h6, ci.two, ht1, wts.1, ci.hB, by omega, by omega⟩
      walk_at "rd"
      refine ⟨qq, f, nl, fs, cm, B, v1, t1, rfl, c1, cg, fun _ => by omega, fun _ => by omega, by omega, fun p1 ws1 H1 s1 n1 h1 hw1 => ?_⟩
      have c2 : CbIn H1 qq nl fs cm B v2 t2 := ⟨s1 _ _ ci.hq, ci.nl6, ci.hcm, ci.hn, ci.h6, ci.two, ht2.tu (tu_same s1), wts.2.1, ci.hB, by omega, by omega⟩
      have ha1 := s1 _ _ ha
      walk_at "rd"
      refine ⟨qq, f, nl, fs, cm, B, v2, t2, rfl, c2, cg, fun _ => by omega, fun _ => by omega, by omega, fun p2 ws2 H2 s2 n2 h2 hw2 => ?_⟩
      have o1 := (fln_ok ci.two f cg t1 wts.1).2.1
      have o2 := (fln_ok ci.two f cg t2 wts.2.1).2.1
      have l1 := hw1.length
      have l2 := hw2.length
      have zt := ci.zt
      refine ⟨p1, p2, ws1, ws2, rfl, rfl, s2 _ _ h1, h2, Nat.le_trans (show ws1.length + ws2.length ≤ 10010 by omega) (by decide), fun pp np => ?_⟩
      have sn := same_new np (.lst (ws1 ++ ws2))
      refine q pp _ _ (s1.trans (s2.trans sn)) (s1.free (s2.free np)) upd_same ?_
      rw [fln_head]
      show TmsIn _ (fln cm f t1 ++ (fln cm f t2 ++ [])) _
      rw [List.append_nil]
      exact (hw1.tu (tu_same (s2.trans sn))).append (hw2.tu (tu_same sn))


/-! _law_symbols -/
def sp_u_law_symbols (N : Nat) : Sp := fun vs H Q _ => ∃ (v : V) (t : Tm), vs = [v] ∧ TmIn H t v ∧ t.sz ≤ 100000 ∧ t.dep ≤ N ∧ ∀ p H', Same H H' → H p = none → H' p = some (.lst (syms t)) → Q (.ref p) H'
theorem st_u_law_symbols (T : Tx K mg A) (N : Nat) (G_u_law_symbols : FnOk P w K mg base CX0 (N + 1) A.a_u_law_symbols A.d_u_law_symbols ["term"] (sp_u_law_symbols N)) : FnOk P w K mg base CX0 (N + 2) A.a_u_law_symbols A.d_u_law_symbols ["term"] (sp_u_law_symbols (N + 1)) := by

  refine T.F_u_law_symbols.ok sc_u_law_symbols (fun vs H Q E h => ?_) (fun cdv Ar outer s0 H vs Q E hr h => ?_)
  · obtain ⟨v, t, rfl, _⟩ := h; rfl
  obtain ⟨v, t, rfl, ht, hz, hd, q⟩ := h
  refine ⟨_, (pss_cons (ps_if (pt_val (pe_callB (r := rIsi K) call_isi (by rfl) T.n_isinstance boot_isinstance (pa_cons (pv 0) (pa_cons (pe_bltn (v := .ty "int") (by rfl) T.n_int boot_int rfl) pa_nil)))) (pss_one (ps_ret (pe_lst (pa_cons (pv 0) pa_nil)))) pss_nil)
    (pss_cons (ps_set (i := 1) sc_u_law_symbols.nd rfl (Or.inl rfl) (pe_lst (pa_cons (pe_ix (r := rIxT K) ix_tup (pv 0) pe_int (fun _ _ => rfl)) pa_nil)))
    (pss_cons (ps_for PassesOwn.never rfl (pi_tup (pe_slice (r := rSlT K) sl_tup (pv 0) (po_some pe_int) po_none)) (pg_name (i := 2) sc_u_law_symbols.nd rfl (Or.inl rfl)) (pss_one (ps_set (i := 1) sc_u_law_symbols.nd rfl (Or.inl rfl) (pe_op op_cat (pv 1) (pe_call G_u_law_symbols (hr.mono (by omega)) rfl T.m_u_law_symbols T.F_u_law_symbols.kp T.b_u_law_symbols .nil pass0 (pa_cons (pv 2) pa_nil))))))
    (pss_one (ps_ret (pv 1)))))), ?_⟩
  cases t with
  | var n =>
    cases (show v = .int n from ht)
    walk_at "rd"
    walk_at "isi"
    walk_at "rd"
    refine ⟨by show 1 ≤ sizeLine; decide, ?_⟩
    first | intro p n1 | refine fun p n1 => ?_
    generalize ehn : upd H p _ = H1
    have s1 := J.al_same n1 ehn
    have h1 := J.al_at ehn
    clear ehn
    exact q p H1 s1 n1 h1
  | app f ts =>
    obtain ⟨a, vs, rfl, ha, hts⟩ := ht
    walk_at "rd"
    walk_at "isi"
    walk_at "rd"
    refine ⟨by show 1 ≤ sizeLine; decide, ?_⟩
    first | intro p n1 | refine fun p n1 => ?_
    generalize ehn : upd H p _ = H1
    have s1 := J.al_same n1 ehn
    have h1 := J.al_at ehn
    clear ehn
    have ha1 := s1 _ _ ha
    walk_at "rd"
    walk_at "sl1"
    first | intro u n2 | refine fun u n2 => ?_
    generalize ehn : upd H1 u _ = H2
    have s2 := J.al_same n2 ehn
    have h2 := J.al_at ehn
    clear ehn
    have hts2 := (hts.tu (tu_same s1)).tu (tu_same s2)
    have hvl := hts.length
    have hz : 1 + Tm.szs ts ≤ 100000 := hz
    have hll := Tm.len_le ts
    refine ⟨_, rfl, ⟨_, SqT.of h2⟩, for_tup (xs := vs) (fun i σ' H' => ∃ p x, σ' = [some (.ref a), some (.ref p), x] ∧ H' p = some (.lst (.str f :: symss (ts.take i))) ∧ H p = none ∧ Same H2 H') ?_ ?_ ?_ ?_⟩
    · exact ⟨p, none, rfl, s2 _ _ h1, n1, Same.refl _⟩
    · rintro i σ' H' hi ⟨p, x, rfl, hp, np, b⟩
      exact SqT.of (b _ _ h2)
    · rintro i y σ' H' hi ⟨p, x, rfl, hp, np, b⟩
      obtain ⟨t, gt, ht⟩ := hts2.get hi
      have mt : t ∈ ts := List.mem_of_getElem? gt
      have := Tm.sz_arg mt
      have hiv : i < vs.length := (List.getElem?_eq_some_iff.mp hi).1
      walk_at "rd"
      refine ⟨y, t, rfl, ht.tu (tu_same b), by omega, TmIn.dep_arg hd mt, fun r H3 s3 n3 h3 => ?_⟩
      have hl3 := szs_take ts i
      refine ⟨p, r, _, _, rfl, rfl, s3 _ _ hp, h3, ?_, ?_⟩
      · rw [List.length_cons, symss_len, syms_len]
        exact Nat.le_trans (show Tm.szs (ts.take i) + 1 + t.sz ≤ 200001 by omega) (by decide)
      first | intro z n4 | refine fun z n4 => ?_
      generalize ehn : upd H3 z _ = H4
      have s4 := J.al_same n4 ehn
      have h4 := J.al_at ehn
      clear ehn
      refine ⟨z, _, rfl, ?_, (s1.trans (s2.trans (b.trans s3))).free n4, b.trans (s3.trans s4)⟩
      rw [h4, list_take_succ gt, symss_app]
      show some (HO.lst (V.str f :: (symss (ts.take i) ++ syms t))) = some (HO.lst (V.str f :: (symss (ts.take i) ++ (syms t ++ []))))
      rw [List.append_nil]
    · rintro σ' H' ⟨p, x, rfl, hp, np, b⟩
      rw [hvl, List.take_length] at hp
      walk_at "rd"
      exact q p H' (s1.trans (s2.trans b)) np hp

theorem all_u_law_symbols (T : Tx K mg A) : ∀ N : Nat, FnOk P w K mg base CX0 (N + 1) A.a_u_law_symbols A.d_u_law_symbols ["term"] (sp_u_law_symbols N)
  | 0 => fn_none fun vs H Q E h => by obtain ⟨v, t, _, _, _, hd, _⟩ := h; have := t.dep_pos; omega
  | N + 1 => st_u_law_symbols T N (all_u_law_symbols T N)
theorem ok_u_law_symbols (T : Tx K mg A) : FnOk P w K mg base CX0 61 A.a_u_law_symbols A.d_u_law_symbols ["term"] (sp_u_law_symbols 60) := all_u_law_symbols T 60

/-! _law_compare -/
def sp_u_law_compare : Sp := fun vs H Q _ => ∃ (v u : V) (t r : Tm) (fs : List Str) (B C : Int), vs = [v, u] ∧ TmIn H t v ∧ TmIn H r u ∧ Names fs ∧ t.wf fs B ∧ r.wf fs C ∧ B ≤ 100 ∧ C ≤ 100 ∧ t.sz ≤ 100000 ∧ r.sz ≤ 100000 ∧ t.dep ≤ 60 ∧ r.dep ≤ 60 ∧ ∀ n H', Same H H' → n = kcmp t r → Q (.int n) H'
theorem ok_u_law_compare (T : Tx K mg A) : FnOk P w K mg base CX0 (63) A.a_u_law_compare A.d_u_law_compare ["first", "second"] sp_u_law_compare := by
  have G_u_law_symbols := ok_u_law_symbols (P := P) (w := w) (base := base) T
  refine T.F_u_law_compare.ok sc_u_law_compare (fun vs H Q E h => ?_) (fun cdv Ar outer s0 H vs Q E hr h => ?_)
  · obtain ⟨v, u, t, r, fs, B, C, rfl, _⟩ := h; rfl
  obtain ⟨v, u, t, r, fs, B, C, rfl, ht, hrr, hn, wt, wr, hB, hC, zt, zr, dt, dr, q⟩ := h
  refine ⟨_, (pss_cons (ps_set (i := 2) sc_u_law_compare.nd rfl (Or.inl rfl) (pe_call G_u_law_symbols (hr.mono (by omega)) rfl T.m_u_law_symbols T.F_u_law_symbols.kp T.b_u_law_symbols .nil pass0 (pa_cons (pv 0) pa_nil)))
    (pss_cons (ps_set (i := 3) sc_u_law_compare.nd rfl (Or.inl rfl) (pe_call G_u_law_symbols (hr.mono (by omega)) rfl T.m_u_law_symbols T.F_u_law_symbols.kp T.b_u_law_symbols .nil pass0 (pa_cons (pv 1) pa_nil)))
    (pss_cons (ps_if (pt_cmpR op_ne (pe_callB (r := rLenS K) j_len (by rfl) T.n_len PySem.boot_len (pa_cons (pv 2) pa_nil)) (pe_callB (r := rLenS K) j_len (by rfl) T.n_len PySem.boot_len (pa_cons (pv 3) pa_nil)) (nomark _)) (pss_one (ps_ret (pe_ifExp (pt_cmpR op_lt (pe_callB (r := rLenS K) j_len (by rfl) T.n_len PySem.boot_len (pa_cons (pv 2) pa_nil)) (pe_callB (r := rLenS K) j_len (by rfl) T.n_len PySem.boot_len (pa_cons (pv 3) pa_nil)) (nomark _)) (pe_un un_neg pe_int) pe_int))) pss_nil)
    (pss_cons (ps_for PassesOwn.never rfl (pi_range1 rfl T.n_range (pa_cons (pe_callB (r := rLenS K) j_len (by rfl) T.n_len PySem.boot_len (pa_cons (pv 2) pa_nil)) pa_nil)) (pg_name (i := 4) sc_u_law_compare.nd rfl (Or.inl rfl)) (pss_one (ps_if (pt_cmpR op_ne (pe_ix (r := rIxL K) ix_list (pv 2) (pv 4) (fun _ _ => rfl)) (pe_ix (r := rIxL K) ix_list (pv 3) (pv 4) (fun _ _ => rfl)) (nomark _)) (pss_cons (ps_if (pt_cmpR op_ne (pe_callB (r := rIsi K) call_isi (by rfl) T.n_isinstance boot_isinstance (pa_cons (pe_ix (r := rIxL K) ix_list (pv 2) (pv 4) (fun _ _ => rfl)) (pa_cons (pe_bltn (v := .ty "int") (by rfl) T.n_int boot_int rfl) pa_nil))) (pe_callB (r := rIsi K) call_isi (by rfl) T.n_isinstance boot_isinstance (pa_cons (pe_ix (r := rIxL K) ix_list (pv 3) (pv 4) (fun _ _ => rfl)) (pa_cons (pe_bltn (v := .ty "int") (by rfl) T.n_int boot_int rfl) pa_nil))) (nomark _)) (pss_one (ps_ret (pe_ifExp (pt_val (pe_callB (r := rIsi K) call_isi (by rfl) T.n_isinstance boot_isinstance (pa_cons (pe_ix (r := rIxL K) ix_list (pv 2) (pv 4) (fun _ _ => rfl)) (pa_cons (pe_bltn (v := .ty "int") (by rfl) T.n_int boot_int rfl) pa_nil)))) (pe_un un_neg pe_int) pe_int))) pss_nil)
    (pss_one (ps_ret (pe_ifExp (pt_cmpR (op_ltD hr.units) (pe_ix (r := rIxL K) ix_list (pv 2) (pv 4) (fun _ _ => rfl)) (pe_ix (r := rIxL K) ix_list (pv 3) (pv 4) (fun _ _ => rfl)) (nomark _)) (pe_un un_neg pe_int) pe_int)))) pss_nil)))
    (pss_one (ps_ret pe_int)))))), ?_⟩
  walk_at "rd"
  refine ⟨v, t, rfl, ht, zt, dt, fun p H1 s1 n1 h1 => ?_⟩
  walk_at "rd"
  refine ⟨u, r, rfl, hrr.tu (tu_same s1), zr, dr, fun p2 H2 s2 n2 h2 => ?_⟩
  have h12 := s2 _ _ h1
  have k2 := s1.trans s2
  have lt := syms_len t
  have lr := syms_len r
  have tri : klt t r = true ∨ klt r t = true ∨ t = r := by
    cases e1 : klt t r with
    | true => exact .inl rfl
    | false => cases e2 : klt r t with
      | true => exact .inr (.inl rfl)
      | false => exact .inr (.inr (klt_tri hn.nd wt wr e1 e2))
  walk_at "rd"
  dsimp only
  refine ifNe (fun e => ?_) (fun e => ?_)
  · have hl : (syms t).length ≠ (syms r).length := fun z => e (by rw [z])
    have k1 := klt_len hl
    have k3 := klt_len hl.symm
    walk_at "rd"
    dsimp only
    refine ifD (fun c => ?_) (fun c => ?_)
    · walk_at "rd"
      exact q (-1) H2 k2 (kcmp_of_lt (by rw [k1]; exact decide_eq_true (by omega)) rfl)
    · walk_at "rd"
      exact q 1 H2 k2 (kcmp_of_gt (by rw [k3]; exact decide_eq_true (by omega)) rfl)
  · have hl : (syms t).length = (syms r).length := by omega
    walk_at "rd"
    refine ⟨by omega, by omega, for_range (lo := 0) (n := (syms t).length) (fun i σ' H' => ∃ x, σ' = [some v, some u, some (.ref p), some (.ref p2), x] ∧ H' = H2 ∧ (syms t).take i = (syms r).take i) ?_ ?_ ?_⟩
    · exact ⟨none, rfl, rfl, rfl⟩
    · rintro i σ' H' hi ⟨x, rfl, rfl, et⟩
      have gx := List.getElem?_eq_getElem hi
      have gy := List.getElem?_eq_getElem (l := syms r) (i := i) (by omega)
      generalize (syms t)[i] = x1 at gx
      generalize (syms r)[i]'(by omega) = y1 at gy
      have e0 : (0 : Int) + (i : Int) = (i : Int) := by omega
      have kx := syms_kind t x1 (List.mem_of_getElem? gx)
      have ky := syms_kind r y1 (List.mem_of_getElem? gy)
      have k1 := fun ne : x1 ≠ y1 => klt_first hn hB hC wt wr hl et gx gy ne
      have k3 := fun ne : y1 ≠ x1 => klt_first hn hC hB wr wt hl.symm et.symm gy gx ne
      walk_at "rd"
      refine ⟨p, _, _, _, rfl, rfl, SqL.of h12, by rw [e0]; exact atI_nat gx, ?_⟩
      refine ⟨_, rfl, ?_⟩
      refine ⟨_, rfl, ?_⟩
      refine ⟨p2, _, _, _, rfl, rfl, SqL.of h2, by rw [e0]; exact atI_nat gy, ?_⟩
      rcases kx with ⟨n, rfl⟩ | ⟨f, rfl⟩
      · rcases ky with ⟨m, rfl⟩ | ⟨g, rfl⟩
        · refine ⟨rfl, _, rfl, ?_⟩
          refine ifNe (fun ne => ?_) (fun e => ?_)
          · have ne1 : V.int n ≠ V.int m := fun z => ne (by injection z)
            have k1 := k1 ne1
            have k3 := k3 ne1.symm
            rw [rowD_lt_int] at k1 k3
            walk_at "rd"
            refine ⟨_, _, _, _, rfl, rfl, SqL.of (by assumption), by rw [Int.zero_add]; exact atI_nat (by assumption), ?_⟩
            walk_at "isi"
            walk_at "rd"
            refine ⟨_, _, _, _, rfl, rfl, SqL.of (by assumption), by rw [Int.zero_add]; exact atI_nat (by assumption), ?_⟩
            walk_at "isi"
            refine ⟨rfl, _, rfl, ?_⟩
            refine (if_neg (by decide) : ite _ _ _ = _).mpr ?_
            dsimp only [tNext]
            walk_at "rd"
            refine ⟨_, _, _, _, rfl, rfl, SqL.of (by assumption), by rw [Int.zero_add]; exact atI_nat (by assumption), ?_⟩
            walk_at "rd"
            refine ⟨_, _, _, _, rfl, rfl, SqL.of (by assumption), by rw [Int.zero_add]; exact atI_nat (by assumption), ?_⟩
            refine ⟨_, _, .int n, .int m, rfl, (fun z => nomatch z), Nat.zero_le _, ?_⟩
            refine ⟨_, rfl, ?_⟩
            refine ifB (fun c => ?_) (fun c => ?_)
            · walk_at "rd"
              exact q (-1) H' k2 (kcmp_of_lt (by rw [k1, ← PySem.W.dataLt_int]; exact c) rfl)
            · walk_at "rd"
              refine q 1 H' k2 ?_
              rcases tri with z | z | z
              · rw [k1, ← PySem.W.dataLt_int] at z; have c := z.symm.trans c; cases c
              · exact kcmp_of_gt z rfl
              · subst z; rw [gx] at gy; exact absurd (Option.some.inj gy) ne1
          · refine ⟨_, rfl, rfl, ?_⟩
            rw [list_take_succ gx, list_take_succ gy, et, e]
        · refine ⟨rfl, _, rfl, ?_⟩
          have ne1 : V.int n ≠ V.str g := fun z => nomatch z
          have k1 := k1 ne1
          have e1 : PySem.W.dataLt (rowD (.int n)) (rowD (.str g)) = true := rfl
          refine (if_pos (by rw [decide_eq_false ne1]; rfl) : ite _ _ _ = _).mpr ?_
          walk_at "rd"
          refine ⟨_, _, _, _, rfl, rfl, SqL.of (by assumption), by rw [Int.zero_add]; exact atI_nat (by assumption), ?_⟩
          walk_at "isi"
          walk_at "rd"
          refine ⟨_, _, _, _, rfl, rfl, SqL.of (by assumption), by rw [Int.zero_add]; exact atI_nat (by assumption), ?_⟩
          walk_at "isi"
          refine ⟨rfl, _, rfl, ?_⟩
          refine (if_pos (by decide) : ite _ _ _ = _).mpr ?_
          walk_at "rd"
          refine ⟨_, _, _, _, rfl, rfl, SqL.of (by assumption), by rw [Int.zero_add]; exact atI_nat (by assumption), ?_⟩
          walk_at "isi"
          refine ⟨_, rfl, ?_⟩
          refine (if_pos (by decide) : ite _ _ _ = _).mpr ?_
          walk_at "rd"
          exact q (-1) H' k2 (kcmp_of_lt (k1.trans e1) rfl)
      · rcases ky with ⟨m, rfl⟩ | ⟨g, rfl⟩
        · refine ⟨rfl, _, rfl, ?_⟩
          have ne1 : V.str f ≠ V.int m := fun z => nomatch z
          have k3 := k3 ne1.symm
          have e1 : PySem.W.dataLt (rowD (.int m)) (rowD (.str f)) = true := rfl
          refine (if_pos (by rw [decide_eq_false ne1]; rfl) : ite _ _ _ = _).mpr ?_
          walk_at "rd"
          refine ⟨_, _, _, _, rfl, rfl, SqL.of (by assumption), by rw [Int.zero_add]; exact atI_nat (by assumption), ?_⟩
          walk_at "isi"
          walk_at "rd"
          refine ⟨_, _, _, _, rfl, rfl, SqL.of (by assumption), by rw [Int.zero_add]; exact atI_nat (by assumption), ?_⟩
          walk_at "isi"
          refine ⟨rfl, _, rfl, ?_⟩
          refine (if_pos (by decide) : ite _ _ _ = _).mpr ?_
          walk_at "rd"
          refine ⟨_, _, _, _, rfl, rfl, SqL.of (by assumption), by rw [Int.zero_add]; exact atI_nat (by assumption), ?_⟩
          walk_at "isi"
          refine ⟨_, rfl, ?_⟩
          refine (if_neg (by decide) : ite _ _ _ = _).mpr ?_
          walk_at "rd"
          exact q 1 H' k2 (kcmp_of_gt (k3.trans e1) rfl)
        · refine ⟨rfl, _, rfl, ?_⟩
          refine ifNeS (fun ne => ?_) (fun e => ?_)
          · have ne1 : V.str f ≠ V.str g := fun z => ne (by injection z)
            have k1 := k1 ne1
            have k3 := k3 ne1.symm
            rw [rowD_lt_str] at k1 k3
            walk_at "rd"
            refine ⟨_, _, _, _, rfl, rfl, SqL.of (by assumption), by rw [Int.zero_add]; exact atI_nat (by assumption), ?_⟩
            walk_at "isi"
            walk_at "rd"
            refine ⟨_, _, _, _, rfl, rfl, SqL.of (by assumption), by rw [Int.zero_add]; exact atI_nat (by assumption), ?_⟩
            walk_at "isi"
            refine ⟨rfl, _, rfl, ?_⟩
            refine (if_neg (by decide) : ite _ _ _ = _).mpr ?_
            dsimp only [tNext]
            walk_at "rd"
            refine ⟨_, _, _, _, rfl, rfl, SqL.of (by assumption), by rw [Int.zero_add]; exact atI_nat (by assumption), ?_⟩
            walk_at "rd"
            refine ⟨_, _, _, _, rfl, rfl, SqL.of (by assumption), by rw [Int.zero_add]; exact atI_nat (by assumption), ?_⟩
            refine ⟨_, _, .str f, .str g, rfl, (fun z => nomatch z), Nat.zero_le _, ?_⟩
            refine ⟨_, rfl, ?_⟩
            refine ifB (fun c => ?_) (fun c => ?_)
            · walk_at "rd"
              exact q (-1) H' k2 (kcmp_of_lt (by rw [k1, ← PySem.W.dataLt_str]; exact c) rfl)
            · walk_at "rd"
              refine q 1 H' k2 ?_
              rcases tri with z | z | z
              · rw [k1, ← PySem.W.dataLt_str] at z; have c := z.symm.trans c; cases c
              · exact kcmp_of_gt z rfl
              · subst z; rw [gx] at gy; exact absurd (Option.some.inj gy) ne1
          · refine ⟨_, rfl, rfl, ?_⟩
            rw [list_take_succ gx, list_take_succ gy, et, e]
    · rintro σ' H' ⟨x, rfl, rfl, et⟩
      rw [List.take_length, hl, List.take_length] at et
      walk_at "rd"
      have e := (syms_inj hn.nd t r [] [] wt wr (by rw [et])).1
      refine q 0 H' k2 ?_
      unfold kcmp
      rw [e, klt_self]; rfl

/-! _law_combined -/
theorem st_u_law_combined (T : Tx K mg A) (M : Nat) (G_u_law_combined : FnOk P w K mg base CX0 (M + 65) A.a_u_law_combined A.d_u_law_combined ["names", "term"] (sp_u_law_combined M)) (G_u_law_flat : FnOk P w K mg base CX0 (M + 65) A.a_u_law_flat A.d_u_law_flat ["names", "name", "term"] (sp_u_law_flat M)) : FnOk P w K mg base CX0 (M + 66) A.a_u_law_combined A.d_u_law_combined ["names", "term"] (sp_u_law_combined (M + 1)) := by
  have G_u_law_compare := ok_u_law_compare (P := P) (w := w) (base := base) T
  refine T.F_u_law_combined.ok sc_u_law_combined (fun vs H Q E h => ?_) (fun cdv Ar outer s0 H vs Q E hr h => ?_)
  · obtain ⟨qq, nl, fs, cm, B, v, t, rfl, _⟩ := h; rfl
  obtain ⟨qq, nl, fs, cm, B, v, t, rfl, ci, m1, hM, q⟩ := h
  refine ⟨_, (pss_cons (ps_if (pt_val (pe_callB (r := rIsi K) call_isi (by rfl) T.n_isinstance boot_isinstance (pa_cons (pv 1) (pa_cons (pe_bltn (v := .ty "int") (by rfl) T.n_int boot_int rfl) pa_nil)))) (pss_one (ps_ret (pv 1))) pss_nil)
    (pss_cons (ps_if (pt_cmpR (r := rIn K true) op_notIn_seq (pe_ix (r := rIxT K) ix_tup (pv 1) pe_int (fun _ _ => rfl)) (pv 0) rfl) (pss_cons (ps_set (i := 2) sc_u_law_combined.nd rfl (Or.inl rfl) (pe_tup (pa_cons (pe_ix (r := rIxT K) ix_tup (pv 1) pe_int (fun _ _ => rfl)) pa_nil)))
    (pss_cons (ps_for PassesOwn.never rfl (pi_tup (pe_slice (r := rSlT K) sl_tup (pv 1) (po_some pe_int) po_none)) (pg_name (i := 3) sc_u_law_combined.nd rfl (Or.inl rfl)) (pss_one (ps_set (i := 2) sc_u_law_combined.nd rfl (Or.inl rfl) (pe_op (r := rCatT K) op_catT (pv 2) (pe_tup (pa_cons (pe_call G_u_law_combined (hr.mono (by omega)) rfl T.m_u_law_combined T.F_u_law_combined.kp T.b_u_law_combined .nil pass0 (pa_cons (pv 0) (pa_cons (pv 3) pa_nil))) pa_nil))))))
    (pss_one (ps_ret (pv 2))))) pss_nil)
    (pss_cons (ps_set (i := 4) sc_u_law_combined.nd rfl (Or.inl rfl) (pe_call G_u_law_flat (hr.mono (by omega)) rfl T.m_u_law_flat T.F_u_law_flat.kp T.b_u_law_flat .nil pass0 (pa_cons (pv 0) (pa_cons (pe_ix (r := rIxT K) ix_tup (pv 1) pe_int (fun _ _ => rfl)) (pa_cons (pv 1) pa_nil)))))
    (pss_cons (ps_set (i := 5) sc_u_law_combined.nd rfl (Or.inl rfl) (pe_lst pa_nil))
    (pss_cons (ps_while PassesOwn.never (pt_cmpR op_gt (pe_callB (r := rLenS K) j_len (by rfl) T.n_len PySem.boot_len (pa_cons (pv 4) pa_nil)) pe_int (nomark _)) (pss_cons (ps_set (i := 6) sc_u_law_combined.nd rfl (Or.inl rfl) (pe_ix (r := rIxL K) ix_list (pv 4) pe_int (fun _ _ => rfl)))
    (pss_cons (ps_for PassesOwn.never rfl (pi_list (pv 4)) (pg_name (i := 7) sc_u_law_combined.nd rfl (Or.inl rfl)) (pss_one (ps_if (pt_cmpR op_lt (pe_call G_u_law_compare (hr.mono (by omega)) rfl T.m_u_law_compare T.F_u_law_compare.kp T.b_u_law_compare .nil pass0 (pa_cons (pv 7) (pa_cons (pv 6) pa_nil))) pe_int (nomark _)) (pss_one (ps_set (i := 6) sc_u_law_combined.nd rfl (Or.inl rfl) (pv 7))) pss_nil)))
    (pss_cons (ps_expr (pe_bm PySem.F.plainAttrs_list PySem.F.slot_list_append PySem.F.type_list_append mt_append (pv 5) (pa_cons (pv 6) pa_nil)))
    (pss_one (ps_expr (pe_bm PySem.F.plainAttrs_list PySem.F.slot_list_remove PySem.F.type_list_remove (mt_remT hr.units) (pv 4) (pa_cons (pv 6) pa_nil))))))))
    (pss_cons (ps_set (i := 2) sc_u_law_combined.nd rfl (Or.inl rfl) (pe_ix (r := rIxL K) ix_list (pv 5) (pe_un un_neg pe_int) (fun _ _ => rfl)))
    (pss_cons (ps_for PassesOwn.never rfl (pi_range2 rfl T.n_range (pa_cons pe_int (pa_cons (pe_callB (r := rLenS K) j_len (by rfl) T.n_len PySem.boot_len (pa_cons (pv 5) pa_nil)) pa_nil))) (pg_name (i := 8) sc_u_law_combined.nd rfl (Or.inl rfl)) (pss_one (ps_set (i := 2) sc_u_law_combined.nd rfl (Or.inl rfl) (pe_tup (pa_cons (pe_ix (r := rIxT K) ix_tup (pv 1) pe_int (fun _ _ => rfl)) (pa_cons (pe_ix (r := rIxL K) ix_list (pv 5) (pe_op op_sub (pe_op op_sub (pe_callB (r := rLenS K) j_len (by rfl) T.n_len PySem.boot_len (pa_cons (pv 5) pa_nil)) pe_int) (pv 8)) (fun _ _ => rfl)) (pa_cons (pv 2) pa_nil)))))))
    (pss_one (ps_ret (pv 2)))))))))), ?_⟩
  have ht := ci.ht
  have zp := ci.zt
  cases t with
  | var n =>
    cases (show v = .int n from ht)
    walk_at "ri"
    exact q (.int n) H (Same.refl _) rfl
  | app f ts =>
    obtain ⟨a, vs, rfl, ha, hts⟩ := id ht
    have hvl := hts.length
    have hs : inV (V.str f) (nl.map V.str) = cm f := by rw [inV_str2, ci.hcm]
    have ed : (Tm.app f ts).dep = 1 + Tm.deps ts := rfl
    have ez : (Tm.app f ts).sz = 1 + Tm.szs ts := rfl
    have lf := ar_len ci.h6 ci.wt
    walk_at "ri"
    refine ⟨qq, _, rfl, .inl (SqL.of ci.hq), rfl, by rw [List.all_map]; exact List.all_eq_true.mpr fun _ _ => rfl, ?_⟩
    rw [hs]
    refine ⟨_, rfl, ?_⟩
    cases hc : cm f with
    | false =>
      walk_at "rd"
      refine ⟨by show 1 ≤ sizeLine; decide, ?_⟩
      first | intro p0 n1 | refine fun p0 n1 => ?_
      generalize ehn : upd H p0 _ = H1
      have s1 := J.al_same n1 ehn
      have h1 := J.al_at ehn
      clear ehn
      have ha1 := s1 _ _ ha
      walk_at "rd"
      walk_at "sl1"
      first | intro u n2 | refine fun u n2 => ?_
      generalize ehn : upd H1 u _ = H2
      have s2 := J.al_same n2 ehn
      have h2 := J.al_at ehn
      clear ehn
      have k12 := s1.trans s2
      have hts2 := hts.tu (tu_same k12)
      refine ⟨_, rfl, ⟨_, SqT.of h2⟩, for_tup (xs := vs) (fun i σ' H' => ∃ p ws x, σ' = [some (.ref qq), some (.ref a), some (.ref p), x, none, none, none, none, none] ∧ H' p = some (.tup (.str f :: ws)) ∧ TmsIn H' (cmbs cm (ts.take i)) ws ∧ Same H2 H') ?_ ?_ ?_ ?_⟩
      · exact ⟨p0, [], none, rfl, s2 _ _ h1, rfl, Same.refl _⟩
      · rintro i σ' H' hi ⟨p, ws, x, rfl, hp, hu, b⟩
        exact SqT.of (b _ _ h2)
      · rintro i y σ' H' hi ⟨p, ws, x, rfl, hp, hu, b⟩
        obtain ⟨t, gt, ht'⟩ := hts2.get hi
        have mt : t ∈ ts := List.mem_of_getElem? gt
        have hwl := hu.length
        rw [cmbs_map, List.length_map, List.length_take] at hwl
        have zt := Tm.sz_arg mt
        have dt := TmIn.dep_arg (N := Tm.deps ts) (f := f) (by omega) mt
        have lt := Tm.lu_arg (f := f) mt
        have lu := ci.lu
        walk_at "rd"
        refine ⟨qq, nl, fs, cm, B, y, t, rfl, ⟨b _ _ (k12 _ _ ci.hq), ci.nl6, ci.hcm, ci.hn, ci.h6, ci.two, ht'.tu (tu_same b), Tm.wf_of_mem ci.wt.2 mt, ci.hB, by omega, by omega⟩, by omega, by omega, fun v' H4 b4 hv' => ?_⟩
        refine ⟨by show 1 ≤ sizeLine; decide, ?_⟩
        first | intro u2 n5 | refine fun u2 n5 => ?_
        generalize ehn : upd H4 u2 _ = H5
        have s5 := J.al_same n5 ehn
        have h5 := J.al_at ehn
        clear ehn
        refine ⟨p, u2, _, _, rfl, rfl, SqT.of (s5 _ _ (b4 _ _ hp)), SqT.of h5, List.cons_ne_nil _ _, ?_, fun z => absurd z (List.cons_ne_nil _ _), fun _ => ?_⟩
        · rw [List.length_cons]
          exact Nat.le_trans (show ws.length + 1 + 1 ≤ 10 by omega) (by decide)
        first | intro y2 n6 | refine fun y2 n6 => ?_
        generalize ehn : upd H5 y2 _ = H6
        have s6 := J.al_same n6 ehn
        have h6 := J.al_at ehn
        clear ehn
        have k6 : Same H' H6 := b4.trans (s5.trans s6)
        refine ⟨y2, ws ++ [v'], _, rfl, h6, ?_, b.trans k6⟩
        rw [list_take_succ gt, cmbs_app]
        exact (hu.tu (tu_same k6)).append (TmsIn.one ((hv'.tu (tu_same s5)).tu (tu_same s6)))
      · rintro σ' H' ⟨p, ws, x, rfl, hp, hu, b⟩
        rw [hvl, List.take_length] at hu
        walk_at "rd"
        exact q (.ref p) H' (k12.trans b) (by rw [cmb_plain hc]; exact ⟨p, ws, rfl, hp, hu⟩)
    | true =>
      obtain ⟨w1, z1, l1, c1⟩ := fln_ok ci.two f hc (.app f ts) ci.wt
      rw [fln_head] at w1 z1 l1 c1
      have fl2 := Tm.len_le (flns cm f ts)
      have lu := ci.lu
      walk_at "rd"
      refine ⟨qq, f, nl, fs, cm, B, .ref a, .app f ts, rfl, ci, hc, fun _ => by omega, fun z => absurd (z.symm.trans (decide_eq_true rfl : hd f (.app f ts) = true)) Bool.false_ne_true, by omega, fun pr us H1 s1 n1 h1 hus => ?_⟩
      rw [fln_head] at hus
      walk_at "rd"
      refine ⟨by show 0 ≤ sizeLine; decide, ?_⟩
      first | intro po n2 | refine fun po n2 => ?_
      generalize ehn : upd H1 po _ = H2
      have s2 := J.al_same n2 ehn
      have h2 := J.al_at ehn
      clear ehn
      have pro : pr ≠ po := fun z => by rw [z] at h1; rw [h1] at n2; cases n2
      have k12 := s1.trans s2
      have memOk : ∀ t ∈ flns cm f ts, t.wf fs B ∧ t.sz ≤ 10000 ∧ t.dep ≤ 60 := fun t mt => by
        have a1 := Tm.dep_lu t
        have a2 := Tm.lu_arg (f := f) mt
        have a3 : (Tm.app f (flns cm f ts)).lu = Tm.lus (flns cm f ts) + if (flns cm f ts).length ≤ 1 then 1 else 0 := rfl
        have a4 := Tm.sz_arg mt
        obtain ⟨⟨kk, hk, hl2⟩, _⟩ := (show (∃ k, fs[k]? = some f ∧ ts.length = ar k) ∧ Tm.wfs fs B ts from ci.wt)
        rw [ci.two kk f hk hc] at hl2
        have c2 := (flns_ok ci.two f hc ts ci.wt.2).2.2.2
        rw [if_neg (by omega)] at a3
        exact ⟨Tm.wf_of_mem w1 mt, by omega, by omega⟩
      generalize el0 : flns cm f ts = l0 at w1 z1 l1 c1 fl2 hus memOk
      dsimp only [gName]
      refine seq_join (t := tWhile _ _) (fun σ' H' => ∃ (x6 x7 : Option V) (ov : List V), σ' = [some (.ref qq), some (.ref a), none, none, some (.ref pr), some (.ref po), x6, x7, none] ∧ H' po = some (.lst ov) ∧ TmsIn H' (srtK l0) ov ∧ Same H H') ?_ (fun NW contW => ?_)
      · rintro σ' H3 ⟨x6, x7, ov, rfl, hpo, hov, k3⟩
        have p := srtK_perm l0
        have pl := p.length_eq
        have okc := cmb_ok ci.two (.app f ts) ci.wt
        have eq0 : cmb cm (.app f ts) = fld f (srtK l0) := by rw [← el0]; exact cmb_listed hc
        generalize srtK l0 = l at p pl hov eq0
        have ylen := hov.length
        have yne : ov ≠ [] := fun z => by rw [z] at ylen; have : 0 = l.length := ylen; omega
        have ll : l.length ≤ 10000 := by omega
        have yl : ov.dropLast ++ [ov.getLast yne] = ov := List.dropLast_concat_getLast yne
        have gy : ov[ov.length - 1]? = some (ov.getLast yne) := by rw [List.getLast_eq_getElem]; exact List.getElem?_eq_getElem _
        obtain ⟨tz, gz, hz⟩ := hov.get gy
        generalize ov.getLast yne = vz at yl gy hz
        have ha3 := k3 _ _ ha
        have l1' : 1 ≤ l.length := by omega
        walk_at "rd"
        refine ⟨po, ov, -1, vz, rfl, rfl, SqL.of hpo, yl ▸ atI_last _ _, ?_⟩
        walk_at "rd"
        refine ⟨1, (ov.length : Int), rfl, ⟨by omega, by omega, by omega, by omega⟩, ?_⟩
        rw [show ((ov.length : Int) - 1).toNat = ov.length - 1 by omega]
        refine for_range (lo := 1) (n := ov.length - 1) (fun i σ' H' => ∃ vr x, σ' = [some (.ref qq), some (.ref a), some vr, none, some (.ref pr), some (.ref po), x6, x7, x] ∧ TmIn H' (fld f (l.drop (l.length - 1 - i))) vr ∧ Same H3 H') ?_ ?_ ?_
        · refine ⟨vz, none, rfl, ?_, Same.refl _⟩
          rw [Nat.sub_zero, ← ylen, drop_at gz, List.drop_of_length_le (by omega)]
          exact hz
        · rintro i σ' H' hi ⟨vr, x, rfl, hv, k⟩
          have gi := List.getElem?_eq_getElem (l := ov) (i := l.length - 2 - i) (by omega)
          obtain ⟨ti, gti, hti⟩ := hov.get gi
          generalize ov[l.length - 2 - i]'(by omega) = y at gi hti
          have hti' := hti.tu (tu_same k)
          have ha' := k _ _ ha3
          have e1 : l.length - 1 - (i + 1) = l.length - 2 - i := by omega
          have e2 : l.length - 2 - i + 1 = l.length - 1 - i := by omega
          have ne2 : l.drop (l.length - 1 - i) ≠ [] := fun z => by
            have := congrArg List.length z
            rw [List.length_drop] at this
            have : l.length - (l.length - 1 - i) = 0 := this
            omega
          have ei : ((ov.length : Int) - 1 - (1 + (i : Int))) = ((l.length - 2 - i : Nat) : Int) := by omega
          have hpo' := k _ _ hpo
          walk_at "rd"
          refine ⟨po, ov, _, y, rfl, rfl, SqL.of hpo', (by rw [ei]; exact atI_nat gi), ?_⟩
          walk_at "rd"
          refine ⟨by show 3 ≤ sizeLine; decide, ?_⟩
          first | intro y7 n7 | refine fun y7 n7 => ?_
          generalize ehn : upd H' y7 _ = H7
          have s7 := J.al_same n7 ehn
          have h7 := J.al_at ehn
          clear ehn
          refine ⟨_, _, rfl, ?_, k.trans s7⟩
          rw [e1, drop_at gti, e2, fld_cons ne2]
          exact ⟨y7, _, rfl, h7, ⟨_, _, rfl, hti'.tu (tu_same s7), _, _, rfl, hv.tu (tu_same s7), rfl⟩⟩
        · rintro σ' H' ⟨vr, x, rfl, hv, k⟩
          rw [ylen, Nat.sub_self, List.drop_zero, ← eq0] at hv
          walk_at "rd"
          exact q vr H' (k3.trans k) hv
      · let PW : Nat → L2.St → Hp → Prop := fun m σ H' => ∃ (x6 x7 : Option V) (rs os : List Tm) (rv ov : List V), σ = [some (.ref qq), some (.ref a), none, none, some (.ref pr), some (.ref po), x6, x7, none] ∧ H' pr = some (.lst rv) ∧ TmsIn H' rs rv ∧ H' po = some (.lst ov) ∧ TmsIn H' os ov ∧ (os ++ rs).Perm l0 ∧ (os.Pairwise fun a b => kle a b = true) ∧ (∀ a ∈ os, ∀ b ∈ rs, kle a b = true) ∧ Same H H' ∧ m = rs.length
        refine while_by (fun σ H => ∃ m, PW m σ H) (mu PW) ⟨_, none, none, l0, [], us, [], rfl, s2 _ _ h1, hus.tu (tu_same s2), h2, rfl, .refl _, .nil, fun a h => (nomatch h), k12, rfl⟩ (fun σw Hw p => ?_) ?_
        · obtain ⟨x6, x7, rs, os, rv, ov, rfl, hpr, hrs, hpo, hos, pm, so, cr, kw, em⟩ := mu_at p
          generalize mu PW _ _ = mm at em
          have lrv := hrs.length
          have lov := hos.length
          have lpm := pm.length_eq
          rw [List.length_append] at lpm
          walk_at "rd"
          refine ifD (fun c2 => ?_) (fun c2 => ?_)
          · have hr0 : 0 < rs.length := by omega
            have g0 := List.getElem?_eq_getElem hr0
            generalize rs[0] = t0 at g0
            obtain ⟨v0, gv0, ht0⟩ := hrs.get' g0
            walk_at "rd"
            refine ⟨pr, _, _, v0, rfl, rfl, SqL.of hpr, atI_nat (j := 0) gv0, ?_⟩
            dsimp only [gName]
            refine at_state (t := tSeq _ _) (σ' := [some (.ref qq), some (.ref a), none, none, some (.ref pr), some (.ref po), some v0, x7, none]) rfl ?_
            refine seq_join (t := tFor _ _ _) (fun σ' H' => ∃ (v6 : V) (x7 : Option V) (t6 : Tm), σ' = [some (.ref qq), some (.ref a), none, none, some (.ref pr), some (.ref po), some v6, x7, none] ∧ TmIn H' t6 v6 ∧ t6 ∈ rs ∧ (∀ b ∈ rs, kle t6 b = true) ∧ Same Hw H') ?_ (fun NF contF => ?_)
            · rintro σ' H4 ⟨v6, x7, t6, rfl, h6', m6, le6, k4⟩
              have hpo4 := k4 _ _ hpo
              have hpr4 := k4 _ _ hpr
              obtain ⟨mw, mz, md⟩ := memOk t6 (pm.subset (List.mem_append.mpr (.inr m6)))
              walk_at "rd"
              refine ⟨.inl ⟨rfl, _, SqL.of hpo4⟩, ?_⟩
              walk_at "rd"
              refine ⟨po, ov, _, rfl, rfl, hpo4, Nat.lt_of_le_of_lt (show ov.length ≤ 10001 by omega) (by decide), ?_⟩
              generalize ehn : upd H4 po _ = H5
              have b5 := J.al_but ehn
              have h5 := J.al_at ehn
              clear ehn
              have tu5 : Tu H4 H5 := but_tu b5 (lst_not_tup hpo4)
              have hpr5 := b5 _ _ hpr4 pro
              walk_at "rd"
              refine ⟨.inl ⟨rfl, _, SqL.of hpr5⟩, ?_⟩
              walk_at "rd"
              refine ⟨pr, rv, rs, v6, t6, rfl, rfl, hpr5, (hrs.tu (tu_same k4)).tu tu5, h6'.tu tu5, m6, md, fun j gj => ?_⟩
              generalize ehn : upd H5 pr _ = H6
              have b6 := J.al_but ehn
              have h6x := J.al_at ehn
              clear ehn
              have tu6 : Tu H5 H6 := but_tu b6 (lst_not_tup hpr5)
              have tuA : Tu Hw H6 := fun a xs e => tu6 _ _ (tu5 _ _ (k4 _ _ e))
              obtain ⟨q1, q2, q3, q4⟩ := sel_step gj pm so cr le6
              rw [em]
              refine less_of (P := PW) (k := (rs.eraseIdx j).length) ⟨some v6, x7, rs.eraseIdx j, os ++ [t6], _, _, rfl, h6x, (hrs.tu tuA).eraseIdx j, b6 _ _ h5 pro.symm, (hos.tu tuA).append (TmsIn.one ((h6'.tu tu5).tu tu6)), q1, q2, q3, fun c ob ec => ?_, rfl⟩ q4
              refine b6 _ _ (b5 _ _ (k4 _ _ (kw _ _ ec)) fun z => ?_) fun z => ?_
              · rw [z] at ec; rw [s1.free n2] at ec; cases ec
              · rw [z, n1] at ec; cases ec
            · walk_at "rd"
              refine ⟨⟨_, SqL.of hpr⟩, for_list (xs := rv) (fun i σ' H' => ∃ (v6 : V) (x7 : Option V) (t6 : Tm), σ' = [some (.ref qq), some (.ref a), none, none, some (.ref pr), some (.ref po), some v6, x7, none] ∧ TmIn H' t6 v6 ∧ t6 ∈ rs ∧ (∀ b ∈ rs.take i, kle t6 b = true) ∧ Same Hw H') ?_ ?_ ?_ ?_⟩
              · exact ⟨v0, x7, t0, rfl, ht0, List.mem_of_getElem? g0, fun b hb => (nomatch hb), Same.refl _⟩
              · rintro i σ' H' hi ⟨v6, x7, t6, rfl, h6', m6, le6, k4⟩
                exact SqL.of (k4 _ _ hpr)
              · rintro i y σ' H' hi ⟨v6, x7, t6, rfl, h6', m6, le6, k4⟩
                obtain ⟨tc, gc, htc⟩ := hrs.get hi
                have mc := List.mem_of_getElem? gc
                obtain ⟨mw, mz, md⟩ := memOk t6 (pm.subset (List.mem_append.mpr (.inr m6)))
                obtain ⟨cw, cz, cd⟩ := memOk tc (pm.subset (List.mem_append.mpr (.inr mc)))
                walk_at "rd"
                refine ⟨y, v6, tc, t6, fs, B, B, rfl, htc.tu (tu_same k4), h6', ci.hn, cw, mw, ci.hB, ci.hB, by omega, by omega, cd, md, fun nn H7 s7 hn7 => ?_⟩
                have kx := k4.trans s7
                walk_at "rd"
                refine ifD (fun cc => ?_) (fun cc => ?_)
                · have lt := kcmp_neg.mp (hn7 ▸ cc)
                  walk_at "rd"
                  refine ⟨y, _, tc, rfl, htc.tu (tu_same kx), mc, fun b hb => ?_, kx⟩
                  rw [list_take_succ gc] at hb
                  rcases List.mem_append.mp hb with h | h
                  · exact kle_trans _ _ _ (kle_of_klt lt) (le6 b h)
                  · rw [List.mem_singleton.mp h]; exact kle_refl _
                · have nl : kle t6 tc = true := by
                    show (!klt tc t6) = true
                    cases e : klt tc t6 with
                    | false => rfl
                    | true => exact absurd (hn7 ▸ kcmp_neg.mpr e) cc
                  walk_at "rd"
                  refine ⟨v6, _, t6, rfl, h6'.tu (tu_same s7), m6, fun b hb => ?_, kx⟩
                  rw [list_take_succ gc] at hb
                  rcases List.mem_append.mp hb with h | h
                  · exact le6 b h
                  · rw [List.mem_singleton.mp h]; exact nl
              · rintro σ' H' ⟨v6, x7, t6, rfl, h6', m6, le6, k4⟩
                rw [lrv, List.take_length] at le6
                exact contF _ _ ⟨v6, x7, t6, rfl, h6', m6, le6, k4⟩
          · have r0 : rs = [] := List.length_eq_zero_iff.mp (by omega)
            subst r0
            rw [List.append_nil] at pm
            exact contW _ _ ⟨x6, x7, ov, rfl, hpo, (srtK_only ci.hn.nd w1 pm so) ▸ hos, kw⟩
        · intro σ H1 Q1 Q2 mono q1
          simp only [tTest, tOp, tVar, tCB, tCons, tNil, tC] at q1 ⊢
          unfold rLenS rI0 at q1 ⊢
          obtain ⟨w1, f1, p0, ys, g1, g2, i0, j0, g3, g4, k', hk', q1⟩ := q1
          exact ⟨w1, f1, p0, ys, g1, g2, i0, j0, g3, g4, k', hk', mono _ _ q1⟩

theorem all_u_law_combined (T : Tx K mg A) : ∀ M : Nat, FnOk P w K mg base CX0 (M + 65) A.a_u_law_combined A.d_u_law_combined ["names", "term"] (sp_u_law_combined M) ∧ FnOk P w K mg base CX0 (M + 65) A.a_u_law_flat A.d_u_law_flat ["names", "name", "term"] (sp_u_law_flat M)
  | 0 => ⟨fn_none fun vs H Q E h => by obtain ⟨qq, nl, fs, cm, B, v, t, _, _, hd, _⟩ := h; omega, fn_none fun vs H Q E h => by
      obtain ⟨qq, g, nl, fs, cm, B, v, t, _, _, _, m1, m2, _⟩ := h
      have := t.dep_pos
      cases e : hd g t with
      | true => have := m1 e; omega
      | false => have := m2 e; omega⟩
  | M + 1 => ⟨st_u_law_combined T M (all_u_law_combined T M).1 (all_u_law_combined T M).2, st_u_law_flat T M (all_u_law_combined T M).1 (all_u_law_combined T M).2⟩
theorem ok_u_law_combined (T : Tx K mg A) : FnOk P w K mg base CX0 153 A.a_u_law_combined A.d_u_law_combined ["names", "term"] (sp_u_law_combined 88) := (all_u_law_combined T 88).1

/-! law -/
def sp_law (K : PySem.W.Frag) : Sp := fun vs H Q _ => ∃ (a : Addr) (ns : List Int), vs = [.ref a] ∧ SqL K H a (ns.map V.int) ∧ ns.length ≤ 63 ∧ ∀ H', Q (.bl true) H'
theorem ok_law (T : Tx K mg A) : FnOk P w K mg base CX0 158 A.a_law A.d_law ["script"] (sp_law K) := by
  have G_are_combined_alike := ok_are_combined_alike (P := P) (w := w) (base := base) T
  have G_u_law_combined := ok_u_law_combined (P := P) (w := w) (base := base) T
  have G_u_law_draw := ok_u_law_draw (P := P) (w := w) (base := base) T
  have G_u_law_moved := ok_u_law_moved (P := P) (w := w) (base := base) T
  have G_u_law_same := ok_u_law_same (P := P) (w := w) (base := base) T
  have G_u_law_spoilt := ok_u_law_spoilt (P := P) (w := w) (base := base) T
  have G_u_law_state := ok_u_law_state (P := P) (w := w) (base := base) T
  have G_u_law_tells := ok_u_law_tells (P := P) (w := w) (base := base) T
  have G_u_law_term := ok_u_law_term (P := P) (w := w) (base := base) T
  have G_u_law_two := ok_u_law_two (P := P) (w := w) (base := base) T
  refine T.F_law.ok sc_law (fun vs H Q E h => ?_) (fun cdv Ar outer s0 H vs Q E hr h => ?_)
  · obtain ⟨a, ns, rfl, _⟩ := h; rfl
  obtain ⟨a, ns, rfl, hS, h63, q⟩ := h
  refine ⟨_, (pss_cons (ps_set (i := 1) sc_law.nd rfl (Or.inl rfl) (pe_call G_u_law_state (hr.mono (by omega)) rfl T.m_u_law_state T.F_u_law_state.kp T.b_u_law_state .nil pass0 (pa_cons (pv 0) pa_nil)))
    (pss_cons (ps_set (i := 2) sc_law.nd rfl (Or.inl rfl) (pe_call G_u_law_two (hr.mono (by omega)) rfl T.m_u_law_two T.F_u_law_two.kp T.b_u_law_two .nil pass0 (pa_cons (pv 1) pa_nil)))
    (pss_cons (ps_set (i := 3) sc_law.nd rfl (Or.inl rfl) (pe_lst (pa_cons (pe_ix (r := rIxT K) ix_tup (pe_ix (r := rIxL K) ix_list (pv 2) pe_int (fun _ _ => rfl)) pe_int (fun _ _ => rfl)) (pa_cons (pe_ix (r := rIxT K) ix_tup (pe_ix (r := rIxL K) ix_list (pv 2) pe_int (fun _ _ => rfl)) pe_int (fun _ _ => rfl)) pa_nil))))
    (pss_cons (ps_set (i := 4) sc_law.nd rfl (Or.inl rfl) (pe_slice (r := rSlL K) sl_list (pv 3) (po_some (pe_call G_u_law_draw (hr.mono (by omega)) rfl T.m_u_law_draw T.F_u_law_draw.kp T.b_u_law_draw .nil pass0 (pa_cons (pv 1) (pa_cons pe_int pa_nil)))) (po_some (pe_op op_sub pe_int (pe_call G_u_law_draw (hr.mono (by omega)) rfl T.m_u_law_draw T.F_u_law_draw.kp T.b_u_law_draw .nil pass0 (pa_cons (pv 1) (pa_cons pe_int pa_nil)))))))
    (pss_cons (ps_set (i := 5) sc_law.nd rfl (Or.inl rfl) (pe_call G_u_law_term (hr.mono (by omega)) rfl T.m_u_law_term T.F_u_law_term.kp T.b_u_law_term .nil pass0 (pa_cons (pv 1) (pa_cons (pv 2) (pa_cons pe_int (pa_cons pe_int pa_nil))))))
    (pss_cons (ps_set (i := 6) sc_law.nd rfl (Or.inl rfl) (pv 5))
    (pss_cons (ps_for PassesOwn.never rfl (pi_range1 rfl T.n_range (pa_cons pe_int pa_nil)) (pg_name (i := 7) sc_law.nd rfl (Or.inl rfl)) (pss_one (ps_set (i := 6) sc_law.nd rfl (Or.inl rfl) (pe_call G_u_law_moved (hr.mono (by omega)) rfl T.m_u_law_moved T.F_u_law_moved.kp T.b_u_law_moved .nil pass0 (pa_cons (pv 1) (pa_cons (pv 4) (pa_cons (pv 6) pa_nil)))))))
    (pss_cons (ps_if (pt_cmpR op_notBl (pe_call G_are_combined_alike (hr.mono (by omega)) rfl T.m_are_combined_alike T.F_are_combined_alike.kp T.b_are_combined_alike .nil pass0 (pa_cons (pe_callTy (r := rListS K) j_list (by rfl) T.n_list boot_list (pa_cons (pv 4) pa_nil)) (pa_cons (pv 5) (pa_cons (pv 6) pa_nil)))) pe_bl (nomark _)) (pss_one (ps_ret pe_bl)) pss_nil)
    (pss_cons (ps_if (pt_cmpR op_notBl (pe_call G_are_combined_alike (hr.mono (by omega)) rfl T.m_are_combined_alike T.F_are_combined_alike.kp T.b_are_combined_alike .nil pass0 (pa_cons (pe_callTy (r := rListS K) j_list (by rfl) T.n_list boot_list (pa_cons (pv 4) pa_nil)) (pa_cons (pv 6) (pa_cons (pv 5) pa_nil)))) pe_bl (nomark _)) (pss_one (ps_ret pe_bl)) pss_nil)
    (pss_cons (ps_if (pt_cmpR op_eq (pe_call G_u_law_draw (hr.mono (by omega)) rfl T.m_u_law_draw T.F_u_law_draw.kp T.b_u_law_draw .nil pass0 (pa_cons (pv 1) (pa_cons pe_int pa_nil))) pe_int (nomark _)) (pss_one (ps_set (i := 6) sc_law.nd rfl (Or.inl rfl) (pe_call G_u_law_spoilt (hr.mono (by omega)) rfl T.m_u_law_spoilt T.F_u_law_spoilt.kp T.b_u_law_spoilt .nil pass0 (pa_cons (pv 1) (pa_cons (pv 2) (pa_cons pe_int (pa_cons (pv 6) pa_nil))))))) pss_nil)
    (pss_cons (ps_set (i := 8) sc_law.nd rfl (Or.inl rfl) (pe_call G_u_law_same (hr.mono (by omega)) rfl T.m_u_law_same T.F_u_law_same.kp T.b_u_law_same .nil pass0 (pa_cons (pe_call G_u_law_combined (hr.mono (by omega)) rfl T.m_u_law_combined T.F_u_law_combined.kp T.b_u_law_combined .nil pass0 (pa_cons (pv 4) (pa_cons (pv 5) pa_nil))) (pa_cons (pe_call G_u_law_combined (hr.mono (by omega)) rfl T.m_u_law_combined T.F_u_law_combined.kp T.b_u_law_combined .nil pass0 (pa_cons (pv 4) (pa_cons (pv 6) pa_nil))) pa_nil))))
    (pss_one (ps_ret (pe_call G_u_law_tells (hr.mono (by omega)) rfl T.m_u_law_tells T.F_u_law_tells.kp T.b_u_law_tells .nil pass0 (pa_cons (pe_call G_are_combined_alike (hr.mono (by omega)) rfl T.m_are_combined_alike T.F_are_combined_alike.kp T.b_are_combined_alike .nil pass0 (pa_cons (pe_callTy (r := rListS K) j_list (by rfl) T.n_list boot_list (pa_cons (pv 4) pa_nil)) (pa_cons (pv 5) (pa_cons (pv 6) pa_nil)))) (pa_cons (pv 8) pa_nil)))))))))))))))), ?_⟩
  walk_at "rd"
  refine ⟨a, ns, rfl, hS, h63, fun s l H1 s1 n1 _ st1 => ?_⟩
  walk_at "rd"
  refine ⟨s, l, rfl, st1, fun o fs H2 b2 st2 no op2 => ?_⟩
  have hn := op2.1
  have h6 : fs.length ≤ 6 := by rw [op2.2.1]; decide
  obtain ⟨xs, a3, f3, hxs, lxs, g3, hf3, ht3⟩ := op2.get (k := 3) (by decide)
  obtain ⟨xs', a4, f4, hxs', lxs', g4, hf4, ht4⟩ := op2.get (k := 4) (by decide)
  rw [hxs] at hxs'
  cases hxs'
  walk_at "rd"
  refine ⟨o, _, _, .ref a3, rfl, rfl, SqL.of hxs, atI_nat (j := 3) g3, ?_⟩
  walk_at "rd"
  refine ⟨o, _, _, .ref a4, rfl, rfl, SqL.of hxs, atI_nat (j := 4) g4, ?_⟩
  walk_at "rd"
  refine ⟨show 2 ≤ sizeLine by decide, ?_⟩
  first | intro pb n3 | refine fun pb n3 => ?_
  generalize ehn : upd H2 pb _ = H3
  have s3 := J.al_same n3 ehn
  have h3 := J.al_at ehn
  clear ehn
  have st3 := st2.same s3
  have op3 := op2.same s3
  walk_at "rd"
  refine ⟨s, l, 2, rfl, st3, by decide, by decide, fun ca H4 ca0 ca1 b4 st4 => ?_⟩
  walk_at "rd"
  refine ⟨s, l, 2, rfl, st4, by decide, by decide, fun cb H5 cb0 cb1 b5 st5 => ?_⟩
  have b35 := b4.trans b5
  have pbs : pb ≠ s := (st2.free n3).1.symm
  have h35 := b35 _ _ h3 pbs
  have op5 := op3.but st3 b35
  obtain ⟨nl, enl, l6, mnl⟩ : ∃ nl : List Str, cutV [.str f3, .str f4] (some ca) (some (2 - cb)) = nl.map V.str ∧ nl.length ≤ 6 ∧ ∀ f ∈ nl, f = f3 ∨ f = f4 := by
    have e1 : ca = 0 ∨ ca = 1 := by omega
    have e2 : cb = 0 ∨ cb = 1 := by omega
    rcases e1 with rfl | rfl
    · rcases e2 with rfl | rfl
      · exact ⟨[f3, f4], rfl, by show 2 ≤ 6; decide, fun f h => by rcases List.mem_cons.mp h with h | h; exact .inl h; exact .inr (List.mem_singleton.mp h)⟩
      · exact ⟨[f3], rfl, by show 1 ≤ 6; decide, fun f h => .inl (List.mem_singleton.mp h)⟩
    · rcases e2 with rfl | rfl
      · exact ⟨[f4], rfl, by show 1 ≤ 6; decide, fun f h => .inr (List.mem_singleton.mp h)⟩
      · exact ⟨[], rfl, by show 0 ≤ 6; decide, fun f h => nomatch h⟩
  have two : ∀ (k : Nat) (f : Str), fs[k]? = some f → decide (f ∈ nl) = true → ar k = 2 := fun k f gk hm => by
    have uq : ∀ {j : Nat} {g : Str}, fs[j]? = some g → f = g → k = j := fun {j g} gj e => by
      have lk := (List.getElem?_eq_some_iff.mp gk).1
      exact (List.getElem?_inj lk hn.nd).mp (gk.trans (e ▸ gj.symm))
    rcases mnl f (of_decide_eq_true hm) with e | e
    · rw [uq hf3 e]; rfl
    · rw [uq hf4 e]; rfl
  walk_at "rd"
  refine ⟨pb, _, rfl, SqL.of h35, ?_⟩
  rw [enl]
  first | intro pn n6 | refine fun pn n6 => ?_
  generalize ehn : upd H5 pn _ = H6
  have s6 := J.al_same n6 ehn
  have h6' := J.al_at ehn
  clear ehn
  have st6 := st5.same s6
  have op6 := op5.same s6
  walk_at "rd"
  refine ⟨s, l, o, fs, 2, 3, by decide, rfl, st6, op6, by decide, by decide, fun v t H7 b7 st7 ht wt dt zt => ?_⟩
  have zt : 2 * t.sz + 1 ≤ 81 := zt
  have lt := lu_dep h6 t wt
  have p3 : 3 ^ t.dep ≤ 3 ^ 4 := Nat.pow_le_pow_right (by decide) dt
  have p3 : 3 ^ t.dep ≤ 81 := p3
  have pns : pn ≠ s := (st5.free n6).1.symm
  have hn7 := b7 _ _ h6' pns
  have op7 := op6.but st6 b7
  have nds := hn.nd
  walk_at "rd"
  refine ⟨by decide, by decide, for_range (lo := 0) (n := 8) (fun i σ' H' => ∃ (v2 : V) (u : Tm) (x7 x8 : Option V), σ' = [some (.ref a), some (.ref s), some (.ref o), some (.ref pb), some (.ref pn), some v, some v2, x7, x8] ∧ But s H7 H' ∧ St H' s l ∧ TmIn H' u v2 ∧ Mv (fun f => decide (f ∈ nl)) fs 2 t u) ?_ ?_ ?_⟩
  · exact ⟨v, t, none, none, rfl, But.refl _ _, st7, ht, Mv.refl wt⟩
  · rintro i σ' H' hi ⟨v2, u, x7, x8, rfl, b8, st8, hu, mv⟩
    have du := Tm.dep_lu u
    have e1 := mv.lu
    have e2 := mv.sz
    walk_at "rd"
    refine ⟨s, l, pn, nl, fs, fun f => decide (f ∈ nl), 2, v2, u, rfl, st8, pns, b8 _ _ hn7 pns, fun _ => rfl, nds, h6, two, hu, mv.wf, by omega, by omega, fun v3 u3 H9 b9 st9 hu3 mv3 => ?_⟩
    exact ⟨v3, u3, _, _, rfl, b8.trans b9, st9, hu3, mv.trans mv3⟩
  · rintro σ' H8 ⟨v2, u, x7, x8, rfl, b8, st8, hu, mv⟩
    have du := Tm.dep_lu u
    have dtl := Tm.dep_lu t
    have e1 := mv.lu
    have e2 := mv.sz
    have hn8 := b8 _ _ hn7 pns
    have ht8 := ht.tu (st7.tu b8)
    have op8 := op7.but st7 b8
    have hu8 := hu
    walk_at "rd"
    first | intro l9 n9 | refine fun l9 n9 => ?_
    generalize ehn : upd H8 l9 _ = H9
    have s9 := J.al_same n9 ehn
    have h9 := J.al_at ehn
    clear ehn
    walk_at "rd"
    refine ⟨l9, nl, fs, fun f => decide (f ∈ nl), 2, v, v2, t, u, rfl, h9, l6, fun _ => rfl, hn, h6, two, ht8.tu (tu_same s9), hu8.tu (tu_same s9), wt, mv.wf, by decide, by omega, by omega, by omega, by omega, fun b H10 s10 hb => ?_⟩
    obtain rfl : b = true := hb.mpr mv.cmb.symm
    have k10 := s9.trans s10
    have hn10 := k10 _ _ hn8
    walk_at "rd"
    first | intro l11 n11 | refine fun l11 n11 => ?_
    generalize ehn : upd H10 l11 _ = H11
    have s11 := J.al_same n11 ehn
    have h11 := J.al_at ehn
    clear ehn
    have k11 := k10.trans s11
    walk_at "rd"
    refine ⟨l11, nl, fs, fun f => decide (f ∈ nl), 2, v2, v, u, t, rfl, h11, l6, fun _ => rfl, hn, h6, two, hu8.tu (tu_same k11), ht8.tu (tu_same k11), mv.wf, wt, by decide, by omega, by omega, by omega, by omega, fun b H12 s12 hb => ?_⟩
    obtain rfl : b = true := hb.mpr mv.cmb
    have k12 := k11.trans s12
    have st12 := st8.same k12
    have op12 := op8.same k12
    have hn12 := k12 _ _ hn8
    have ht12 := ht8.tu (tu_same k12)
    have hu12 := hu8.tu (tu_same k12)
    have wu := mv.wf
    walk_at "rd"
    refine ⟨s, l, 3, rfl, st12, by decide, by decide, fun d H13 _ _ b13 st13 => ?_⟩
    have op13 := op12.but st12 b13
    have hn13 := b13 _ _ hn12 pns
    have ht13 := ht12.tu (st12.tu b13)
    have hu13 := hu12.tu (st12.tu b13)
    walk_at "rd"
    refine ifEq (fun _ => ?_) (fun _ => ?_)
    · walk_at "rd"
      refine ⟨s, l, o, fs, 2, 2, v2, u, rfl, st13, op13, by decide, by decide, by decide, hu13, wu, by omega, by omega, fun v3 u3 H14 b14 st14 hu3 wu3 zu3 du3 lu3 => ?_⟩
      have du3' := Tm.dep_lu u3
      have hn14 := b14 _ _ hn13 pns
      have ht14 := ht13.tu (st13.tu b14)
      walk_at "rd"
      refine ⟨pn, nl, fs, fun f => decide (f ∈ nl), 2, v, t, rfl, ⟨hn14, l6, fun _ => rfl, hn, h6, two, ht14, wt, by decide, by omega, by omega⟩, by omega, by decide, fun e1' HA sA hA => ?_⟩
      walk_at "rd"
      refine ⟨pn, nl, fs, fun f => decide (f ∈ nl), 2, v3, u3, rfl, ⟨sA _ _ (hn14), l6, fun _ => rfl, hn, h6, two, (hu3).tu (tu_same sA), wu3, by decide, by omega, by omega⟩, by omega, by decide, fun e2' HB sB hB => ?_⟩
      have okt := cmb_ok (cm := fun f => decide (f ∈ nl)) two t wt
      have kd := Tm.dep_lu (cmb (fun f => decide (f ∈ nl)) t)
      have kz := okt.sz
      have kl := okt.lu
      walk_at "rd"
      refine ⟨e1', e2', _, _, rfl, hA.tu (tu_same sB), hB, by omega, by omega, fun bb HC sC hbb => ?_⟩
      have kC := sA.trans (sB.trans sC)
      walk_at "rd"
      refine ⟨pn, _, rfl, .inl (SqL.of (kC _ _ hn14)), ?_⟩
      first | intro lD nD | refine fun lD nD => ?_
      generalize ehn : upd HC lD _ = HD
      have sD := J.al_same nD ehn
      have hD := J.al_at ehn
      clear ehn
      have kD := kC.trans sD
      walk_at "rd"
      refine ⟨lD, nl, fs, fun f => decide (f ∈ nl), 2, v, v3, t, u3, rfl, hD, l6, fun _ => rfl, hn, h6, two, (ht14).tu (tu_same kD), (hu3).tu (tu_same kD), wt, wu3, by decide, by omega, by omega, by omega, by omega, fun b2 HE sE hb2 => ?_⟩
      have eb : b2 = bb := Bool.eq_iff_iff.mpr (hb2.trans hbb.symm)
      subst eb
      walk_at "rd"
      refine ⟨b2, b2, rfl, ?_⟩
      rw [show (b2 == b2) = true by cases b2 <;> rfl]
      exact q _
    · walk_at "rd"
      refine ⟨pn, nl, fs, fun f => decide (f ∈ nl), 2, v, t, rfl, ⟨hn13, l6, fun _ => rfl, hn, h6, two, ht13, wt, by decide, by omega, by omega⟩, by omega, by decide, fun e1' HA sA hA => ?_⟩
      walk_at "rd"
      refine ⟨pn, nl, fs, fun f => decide (f ∈ nl), 2, v2, u, rfl, ⟨sA _ _ (hn13), l6, fun _ => rfl, hn, h6, two, (hu13).tu (tu_same sA), wu, by decide, by omega, by omega⟩, by omega, by decide, fun e2' HB sB hB => ?_⟩
      have okt := cmb_ok (cm := fun f => decide (f ∈ nl)) two t wt
      have kd := Tm.dep_lu (cmb (fun f => decide (f ∈ nl)) t)
      have kz := okt.sz
      have kl := okt.lu
      walk_at "rd"
      refine ⟨e1', e2', _, _, rfl, hA.tu (tu_same sB), hB, by omega, by omega, fun bb HC sC hbb => ?_⟩
      have kC := sA.trans (sB.trans sC)
      walk_at "rd"
      refine ⟨pn, _, rfl, .inl (SqL.of (kC _ _ hn13)), ?_⟩
      first | intro lD nD | refine fun lD nD => ?_
      generalize ehn : upd HC lD _ = HD
      have sD := J.al_same nD ehn
      have hD := J.al_at ehn
      clear ehn
      have kD := kC.trans sD
      walk_at "rd"
      refine ⟨lD, nl, fs, fun f => decide (f ∈ nl), 2, v, v2, t, u, rfl, hD, l6, fun _ => rfl, hn, h6, two, (ht13).tu (tu_same kD), (hu13).tu (tu_same kD), wt, wu, by decide, by omega, by omega, by omega, by omega, fun b2 HE sE hb2 => ?_⟩
      have eb : b2 = bb := Bool.eq_iff_iff.mpr (hb2.trans hbb.symm)
      subst eb
      walk_at "rd"
      refine ⟨b2, b2, rfl, ?_⟩
      rw [show (b2 == b2) = true by cases b2 <;> rfl]
      exact q _

end
set_option maxHeartbeats 4000000 in
theorem all_mk {l : PySem.W.OpenLaw} {w : World} {K : PySem.W.Frag} {h : Heap} {mg : Str → Option Value} {fa : Addr} (X : K.In h) (G : h.Ns mainGlobals mg) (hfa : mg "law" = some (.ref fa))
    {c_TooLarge : Addr}
    {tk_MAX_SIZE tk_MAX_DEPTH : Tok}
    {f0 f1 f2 f3 f4 f5 f6 f7 f8 f9 f10 f11 f12 f13 f14 f15 f16 f17 f18 f19 f20 f21 f22 f23 f24 f25 f26 f27 f28 f29 f30 : Addr} {od0 an0 od1 an1 od2 an2 od3 an3 od4 an4 od5 an5 od6 an6 od7 an7 od8 an8 od9 an9 od10 an10 od11 an11 od12 an12 od13 an13 od14 an14 od15 an15 od16 an16 od17 an17 od18 an18 od19 an19 od20 an20 od21 an21 od22 an22 od23 an23 od24 an24 od25 an25 od26 an26 od27 an27 od28 an28 od29 an29 od30 an30 : Option Addr} {sl0 sl1 sl2 sl3 sl4 sl5 sl6 sl7 sl8 sl9 sl10 sl11 sl12 sl13 sl14 sl15 sl16 sl17 sl18 sl19 sl20 sl21 sl22 sl23 sl24 sl25 sl26 sl27 sl28 sl29 sl30 : Array (Option Value)} {oc0 kV0 dc0 pm0 cd0 ct0 oc1 kV1 dc1 pm1 cd1 ct1 oc2 kV2 dc2 pm2 cd2 ct2 oc3 kV3 dc3 pm3 cd3 ct3 oc4 kV4 dc4 pm4 cd4 ct4 oc5 kV5 dc5 pm5 cd5 ct5 oc6 kV6 dc6 pm6 cd6 ct6 oc7 kV7 dc7 pm7 cd7 ct7 oc8 kV8 dc8 pm8 cd8 ct8 oc9 kV9 dc9 pm9 cd9 ct9 oc10 kV10 dc10 pm10 cd10 ct10 oc11 kV11 dc11 pm11 cd11 ct11 oc12 kV12 dc12 pm12 cd12 ct12 oc13 kV13 dc13 pm13 cd13 ct13 oc14 kV14 dc14 pm14 cd14 ct14 oc15 kV15 dc15 pm15 cd15 ct15 oc16 kV16 dc16 pm16 cd16 ct16 oc17 kV17 dc17 pm17 cd17 ct17 oc18 kV18 dc18 pm18 cd18 ct18 oc19 kV19 dc19 pm19 cd19 ct19 oc20 kV20 dc20 pm20 cd20 ct20 oc21 kV21 dc21 pm21 cd21 ct21 oc22 kV22 dc22 pm22 cd22 ct22 oc23 kV23 dc23 pm23 cd23 ct23 oc24 kV24 dc24 pm24 cd24 ct24 oc25 kV25 dc25 pm25 cd25 ct25 oc26 kV26 dc26 pm26 cd26 ct26 oc27 kV27 dc27 pm27 cd27 ct27 oc28 kV28 dc28 pm28 cd28 ct28 oc29 kV29 dc29 pm29 cd29 ct29 oc30 kV30 dc30 pm30 cd30 ct30 : Value}
    (a0 : PySem.W.nsIn K mainGlobals "_law_state" = some (some (.ref f0))) (l0 : K.lookup f0 = some ⟨oc0, od0, .func (PySem.W.fnOf "_law_state" "_law_state" (defArgs s_u_law_state) (defBody s_u_law_state) (defScope s_u_law_state) .none kV0 dc0 pm0 an0 cd0 ct0), sl0⟩) (e0 : PySem.W.codeIn K cd0 "_law_state" = true) (k0 : PySem.W.keepIn K (.ref f0) = true)
    (a1 : PySem.W.nsIn K mainGlobals "_law_mix" = some (some (.ref f1))) (l1 : K.lookup f1 = some ⟨oc1, od1, .func (PySem.W.fnOf "_law_mix" "_law_mix" (defArgs s_u_law_mix) (defBody s_u_law_mix) (defScope s_u_law_mix) .none kV1 dc1 pm1 an1 cd1 ct1), sl1⟩) (e1 : PySem.W.codeIn K cd1 "_law_mix" = true) (k1 : PySem.W.keepIn K (.ref f1) = true)
    (a2 : PySem.W.nsIn K mainGlobals "_law_number" = some (some (.ref f2))) (l2 : K.lookup f2 = some ⟨oc2, od2, .func (PySem.W.fnOf "_law_number" "_law_number" (defArgs s_u_law_number) (defBody s_u_law_number) (defScope s_u_law_number) .none kV2 dc2 pm2 an2 cd2 ct2), sl2⟩) (e2 : PySem.W.codeIn K cd2 "_law_number" = true) (k2 : PySem.W.keepIn K (.ref f2) = true)
    (a3 : PySem.W.nsIn K mainGlobals "_law_draw" = some (some (.ref f3))) (l3 : K.lookup f3 = some ⟨oc3, od3, .func (PySem.W.fnOf "_law_draw" "_law_draw" (defArgs s_u_law_draw) (defBody s_u_law_draw) (defScope s_u_law_draw) .none kV3 dc3 pm3 an3 cd3 ct3), sl3⟩) (e3 : PySem.W.codeIn K cd3 "_law_draw" = true) (k3 : PySem.W.keepIn K (.ref f3) = true)
    (a4 : PySem.W.nsIn K mainGlobals "_law_word" = some (some (.ref f4))) (l4 : K.lookup f4 = some ⟨oc4, od4, .func (PySem.W.fnOf "_law_word" "_law_word" (defArgs s_u_law_word) (defBody s_u_law_word) (defScope s_u_law_word) .none kV4 dc4 pm4 an4 cd4 ct4), sl4⟩) (e4 : PySem.W.codeIn K cd4 "_law_word" = true) (k4 : PySem.W.keepIn K (.ref f4) = true)
    (a5 : PySem.W.nsIn K mainGlobals "_law_names" = some (some (.ref f5))) (l5 : K.lookup f5 = some ⟨oc5, od5, .func (PySem.W.fnOf "_law_names" "_law_names" (defArgs s_u_law_names) (defBody s_u_law_names) (defScope s_u_law_names) .none kV5 dc5 pm5 an5 cd5 ct5), sl5⟩) (e5 : PySem.W.codeIn K cd5 "_law_names" = true) (k5 : PySem.W.keepIn K (.ref f5) = true)
    (a6 : PySem.W.nsIn K mainGlobals "_law_two" = some (some (.ref f6))) (l6 : K.lookup f6 = some ⟨oc6, od6, .func (PySem.W.fnOf "_law_two" "_law_two" (defArgs s_u_law_two) (defBody s_u_law_two) (defScope s_u_law_two) .none kV6 dc6 pm6 an6 cd6 ct6), sl6⟩) (e6 : PySem.W.codeIn K cd6 "_law_two" = true) (k6 : PySem.W.keepIn K (.ref f6) = true)
    (a7 : PySem.W.nsIn K mainGlobals "_law_leaf" = some (some (.ref f7))) (l7 : K.lookup f7 = some ⟨oc7, od7, .func (PySem.W.fnOf "_law_leaf" "_law_leaf" (defArgs s_u_law_leaf) (defBody s_u_law_leaf) (defScope s_u_law_leaf) .none kV7 dc7 pm7 an7 cd7 ct7), sl7⟩) (e7 : PySem.W.codeIn K cd7 "_law_leaf" = true) (k7 : PySem.W.keepIn K (.ref f7) = true)
    (a8 : PySem.W.nsIn K mainGlobals "_law_term" = some (some (.ref f8))) (l8 : K.lookup f8 = some ⟨oc8, od8, .func (PySem.W.fnOf "_law_term" "_law_term" (defArgs s_u_law_term) (defBody s_u_law_term) (defScope s_u_law_term) .none kV8 dc8 pm8 an8 cd8 ct8), sl8⟩) (e8 : PySem.W.codeIn K cd8 "_law_term" = true) (k8 : PySem.W.keepIn K (.ref f8) = true)
    (a9 : PySem.W.nsIn K mainGlobals "_law_same" = some (some (.ref f9))) (l9 : K.lookup f9 = some ⟨oc9, od9, .func (PySem.W.fnOf "_law_same" "_law_same" (defArgs s_u_law_same) (defBody s_u_law_same) (defScope s_u_law_same) .none kV9 dc9 pm9 an9 cd9 ct9), sl9⟩) (e9 : PySem.W.codeIn K cd9 "_law_same" = true) (k9 : PySem.W.keepIn K (.ref f9) = true)
    (a10 : PySem.W.nsIn K mainGlobals "_law_tells" = some (some (.ref f10))) (l10 : K.lookup f10 = some ⟨oc10, od10, .func (PySem.W.fnOf "_law_tells" "_law_tells" (defArgs s_u_law_tells) (defBody s_u_law_tells) (defScope s_u_law_tells) .none kV10 dc10 pm10 an10 cd10 ct10), sl10⟩) (e10 : PySem.W.codeIn K cd10 "_law_tells" = true) (k10 : PySem.W.keepIn K (.ref f10) = true)
    (a11 : PySem.W.nsIn K mainGlobals "_law_positions" = some (some (.ref f11))) (l11 : K.lookup f11 = some ⟨oc11, od11, .func (PySem.W.fnOf "_law_positions" "_law_positions" (defArgs s_u_law_positions) (defBody s_u_law_positions) (defScope s_u_law_positions) .none kV11 dc11 pm11 an11 cd11 ct11), sl11⟩) (e11 : PySem.W.codeIn K cd11 "_law_positions" = true) (k11 : PySem.W.keepIn K (.ref f11) = true)
    (a12 : PySem.W.nsIn K mainGlobals "_law_subterm" = some (some (.ref f12))) (l12 : K.lookup f12 = some ⟨oc12, od12, .func (PySem.W.fnOf "_law_subterm" "_law_subterm" (defArgs s_u_law_subterm) (defBody s_u_law_subterm) (defScope s_u_law_subterm) .none kV12 dc12 pm12 an12 cd12 ct12), sl12⟩) (e12 : PySem.W.codeIn K cd12 "_law_subterm" = true) (k12 : PySem.W.keepIn K (.ref f12) = true)
    (a13 : PySem.W.nsIn K mainGlobals "_law_replace" = some (some (.ref f13))) (l13 : K.lookup f13 = some ⟨oc13, od13, .func (PySem.W.fnOf "_law_replace" "_law_replace" (defArgs s_u_law_replace) (defBody s_u_law_replace) (defScope s_u_law_replace) .none kV13 dc13 pm13 an13 cd13 ct13), sl13⟩) (e13 : PySem.W.codeIn K cd13 "_law_replace" = true) (k13 : PySem.W.keepIn K (.ref f13) = true)
    (a14 : PySem.W.nsIn K mainGlobals "_law_moved" = some (some (.ref f14))) (l14 : K.lookup f14 = some ⟨oc14, od14, .func (PySem.W.fnOf "_law_moved" "_law_moved" (defArgs s_u_law_moved) (defBody s_u_law_moved) (defScope s_u_law_moved) .none kV14 dc14 pm14 an14 cd14 ct14), sl14⟩) (e14 : PySem.W.codeIn K cd14 "_law_moved" = true) (k14 : PySem.W.keepIn K (.ref f14) = true)
    (a15 : PySem.W.nsIn K mainGlobals "_flat_arguments" = some (some (.ref f15))) (l15 : K.lookup f15 = some ⟨oc15, od15, .func (PySem.W.fnOf "_flat_arguments" "_flat_arguments" (defArgs s_u_flat_arguments) (defBody s_u_flat_arguments) (defScope s_u_flat_arguments) .none kV15 dc15 pm15 an15 cd15 ct15), sl15⟩) (e15 : PySem.W.codeIn K cd15 "_flat_arguments" = true) (k15 : PySem.W.keepIn K (.ref f15) = true)
    (a16 : PySem.W.nsIn K mainGlobals "symbols" = some (some (.ref f16))) (l16 : K.lookup f16 = some ⟨oc16, od16, .func (PySem.W.fnOf "symbols" "symbols" (defArgs s_symbols) (defBody s_symbols) (defScope s_symbols) .none kV16 dc16 pm16 an16 cd16 ct16), sl16⟩) (e16 : PySem.W.codeIn K cd16 "symbols" = true) (k16 : PySem.W.keepIn K (.ref f16) = true)
    (a17 : PySem.W.nsIn K mainGlobals "order_key" = some (some (.ref f17))) (l17 : K.lookup f17 = some ⟨oc17, od17, .func (PySem.W.fnOf "order_key" "order_key" (defArgs s_order_key) (defBody s_order_key) (defScope s_order_key) .none kV17 dc17 pm17 an17 cd17 ct17), sl17⟩) (e17 : PySem.W.codeIn K cd17 "order_key" = true) (k17 : PySem.W.keepIn K (.ref f17) = true)
    (a18 : PySem.W.nsIn K mainGlobals "_combined" = some (some (.ref f18))) (l18 : K.lookup f18 = some ⟨oc18, od18, .func (PySem.W.fnOf "_combined" "_combined" (defArgs s_u_combined) (defBody s_u_combined) (defScope s_u_combined) .none kV18 dc18 pm18 an18 cd18 ct18), sl18⟩) (e18 : PySem.W.codeIn K cd18 "_combined" = true) (k18 : PySem.W.keepIn K (.ref f18) = true)
    (a19 : PySem.W.nsIn K mainGlobals "profile" = some (some (.ref f19))) (l19 : K.lookup f19 = some ⟨oc19, od19, .func (PySem.W.fnOf "profile" "profile" (defArgs s_profile) (defBody s_profile) (defScope s_profile) .none kV19 dc19 pm19 an19 cd19 ct19), sl19⟩) (e19 : PySem.W.codeIn K cd19 "profile" = true) (k19 : PySem.W.keepIn K (.ref f19) = true)
    (a20 : PySem.W.nsIn K mainGlobals "measure" = some (some (.ref f20))) (l20 : K.lookup f20 = some ⟨oc20, od20, .func (PySem.W.fnOf "measure" "measure" (defArgs s_measure) (defBody s_measure) (defScope s_measure) .none kV20 dc20 pm20 an20 cd20 ct20), sl20⟩) (e20 : PySem.W.codeIn K cd20 "measure" = true) (k20 : PySem.W.keepIn K (.ref f20) = true)
    (a21 : PySem.W.nsIn K mainGlobals "is_within" = some (some (.ref f21))) (l21 : K.lookup f21 = some ⟨oc21, od21, .func (PySem.W.fnOf "is_within" "is_within" (defArgs s_is_within) (defBody s_is_within) (defScope s_is_within) .none kV21 dc21 pm21 an21 cd21 ct21), sl21⟩) (e21 : PySem.W.codeIn K cd21 "is_within" = true) (k21 : PySem.W.keepIn K (.ref f21) = true)
    (a22 : PySem.W.nsIn K mainGlobals "check_size" = some (some (.ref f22))) (l22 : K.lookup f22 = some ⟨oc22, od22, .func (PySem.W.fnOf "check_size" "check_size" (defArgs s_check_size) (defBody s_check_size) (defScope s_check_size) .none kV22 dc22 pm22 an22 cd22 ct22), sl22⟩) (e22 : PySem.W.codeIn K cd22 "check_size" = true) (k22 : PySem.W.keepIn K (.ref f22) = true)
    (a23 : PySem.W.nsIn K mainGlobals "combined_form" = some (some (.ref f23))) (l23 : K.lookup f23 = some ⟨oc23, od23, .func (PySem.W.fnOf "combined_form" "combined_form" (defArgs s_combined_form) (defBody s_combined_form) (defScope s_combined_form) .none kV23 dc23 pm23 an23 cd23 ct23), sl23⟩) (e23 : PySem.W.codeIn K cd23 "combined_form" = true) (k23 : PySem.W.keepIn K (.ref f23) = true)
    (a24 : PySem.W.nsIn K mainGlobals "are_combined_alike" = some (some (.ref f24))) (l24 : K.lookup f24 = some ⟨oc24, od24, .func (PySem.W.fnOf "are_combined_alike" "are_combined_alike" (defArgs s_are_combined_alike) (defBody s_are_combined_alike) (defScope s_are_combined_alike) .none kV24 dc24 pm24 an24 cd24 ct24), sl24⟩) (e24 : PySem.W.codeIn K cd24 "are_combined_alike" = true) (k24 : PySem.W.keepIn K (.ref f24) = true)
    (a25 : PySem.W.nsIn K mainGlobals "_law_spoilt" = some (some (.ref f25))) (l25 : K.lookup f25 = some ⟨oc25, od25, .func (PySem.W.fnOf "_law_spoilt" "_law_spoilt" (defArgs s_u_law_spoilt) (defBody s_u_law_spoilt) (defScope s_u_law_spoilt) .none kV25 dc25 pm25 an25 cd25 ct25), sl25⟩) (e25 : PySem.W.codeIn K cd25 "_law_spoilt" = true) (k25 : PySem.W.keepIn K (.ref f25) = true)
    (a26 : PySem.W.nsIn K mainGlobals "_law_flat" = some (some (.ref f26))) (l26 : K.lookup f26 = some ⟨oc26, od26, .func (PySem.W.fnOf "_law_flat" "_law_flat" (defArgs s_u_law_flat) (defBody s_u_law_flat) (defScope s_u_law_flat) .none kV26 dc26 pm26 an26 cd26 ct26), sl26⟩) (e26 : PySem.W.codeIn K cd26 "_law_flat" = true) (k26 : PySem.W.keepIn K (.ref f26) = true)
    (a27 : PySem.W.nsIn K mainGlobals "_law_symbols" = some (some (.ref f27))) (l27 : K.lookup f27 = some ⟨oc27, od27, .func (PySem.W.fnOf "_law_symbols" "_law_symbols" (defArgs s_u_law_symbols) (defBody s_u_law_symbols) (defScope s_u_law_symbols) .none kV27 dc27 pm27 an27 cd27 ct27), sl27⟩) (e27 : PySem.W.codeIn K cd27 "_law_symbols" = true) (k27 : PySem.W.keepIn K (.ref f27) = true)
    (a28 : PySem.W.nsIn K mainGlobals "_law_compare" = some (some (.ref f28))) (l28 : K.lookup f28 = some ⟨oc28, od28, .func (PySem.W.fnOf "_law_compare" "_law_compare" (defArgs s_u_law_compare) (defBody s_u_law_compare) (defScope s_u_law_compare) .none kV28 dc28 pm28 an28 cd28 ct28), sl28⟩) (e28 : PySem.W.codeIn K cd28 "_law_compare" = true) (k28 : PySem.W.keepIn K (.ref f28) = true)
    (a29 : PySem.W.nsIn K mainGlobals "_law_combined" = some (some (.ref f29))) (l29 : K.lookup f29 = some ⟨oc29, od29, .func (PySem.W.fnOf "_law_combined" "_law_combined" (defArgs s_u_law_combined) (defBody s_u_law_combined) (defScope s_u_law_combined) .none kV29 dc29 pm29 an29 cd29 ct29), sl29⟩) (e29 : PySem.W.codeIn K cd29 "_law_combined" = true) (k29 : PySem.W.keepIn K (.ref f29) = true)
    (a30 : PySem.W.nsIn K mainGlobals "law" = some (some (.ref f30))) (l30 : K.lookup f30 = some ⟨oc30, od30, .func (PySem.W.fnOf "law" "law" (defArgs s_law) (defBody s_law) (defScope s_law) .none kV30 dc30 pm30 an30 cd30 ct30), sl30⟩) (e30 : PySem.W.codeIn K cd30 "law" = true) (k30 : PySem.W.keepIn K (.ref f30) = true)
    (z_bool : PySem.W.nsIn K mainGlobals "bool" = some none)
    (z_int : PySem.W.nsIn K mainGlobals "int" = some none)
    (z_isinstance : PySem.W.nsIn K mainGlobals "isinstance" = some none)
    (z_len : PySem.W.nsIn K mainGlobals "len" = some none)
    (z_list : PySem.W.nsIn K mainGlobals "list" = some none)
    (z_range : PySem.W.nsIn K mainGlobals "range" = some none)
    (z_sorted : PySem.W.nsIn K mainGlobals "sorted" = some none)
    (z_str : PySem.W.nsIn K mainGlobals "str" = some none)
    (z_tuple : PySem.W.nsIn K mainGlobals "tuple" = some none)
    (zc_MAX_SIZE : PySem.W.nsIn K mainGlobals "MAX_SIZE" = some (some (.int 400 tk_MAX_SIZE)))
    (zc_MAX_DEPTH : PySem.W.nsIn K mainGlobals "MAX_DEPTH" = some (some (.int 30 tk_MAX_DEPTH)))
    (xa_TooLarge : PySem.W.nsIn K mainGlobals "TooLarge" = some (some (.ref c_TooLarge)))
    (xk_TooLarge : PySem.W.keepIn K (.ref c_TooLarge) = true)
    (xe_TooLarge : PySem.W.excIn K c_TooLarge [.type "ValueError", .type "Exception", .type "BaseException", .type "object"] "ValueError.__new__" = true)
    (xb_TooLarge : PySem.W.subIn K (.ref c_TooLarge) (.type "BaseException") = some true)
    (xt_TooLarge : PySem.W.typeIn K (.ref c_TooLarge) = some (.type "type"))
    (xs_TooLarge : PySem.W.subIn K (.ref c_TooLarge) (.ref c_TooLarge) = some true)
    (xhg_TooLarge : PySem.W.findIn K (.ref c_TooLarge) "__getattribute__" = some (some (.builtin "BaseException.__getattribute__")))
    (xhk_TooLarge : PySem.W.findIn K (.ref c_TooLarge) "__getattr__" = some none)
    (xhd_TooLarge : PySem.W.hasDictIn K c_TooLarge = true)
    (xha_TooLarge : PySem.W.findIn K (.ref c_TooLarge) "__class__" = some (some (.builtin "object.__class__")))
    (xhn_TooLarge : PySem.W.specialIn K (.builtin "object.__class__") "__get__" = some (some (.builtin "getset_descriptor.__get__")))
    (xht_TooLarge : PySem.W.takesIn K (.builtin "object.__class__") = some true)
    (xhm_TooLarge : PySem.W.mroIn K c_TooLarge (.type "object") = some true)
    : ∃ fd : FuncData, (∀ (s : Shared) (v : Value), BindsTo s fd ⟨[v], []⟩ [("script", v)]) ∧ ∀ base : Heap, K.In base → base.Ns mainGlobals mg → FnOk l.prog w K mg base CX0 158 fa fd ["script"] (sp_law K) := by
  have e := hfa.symm.trans (PySem.W.mg_of X G a30)
  cases e
  have F0 := fun_mk (st := s_u_law_state) l0 e0 k0
  have b0 := F0.binds (ps := ["script"]) fun _ _ _ _ _ _ us hl => match us, hl with | [_], _ => rfl
  have F1 := fun_mk (st := s_u_law_mix) l1 e1 k1
  have b1 := F1.binds (ps := ["cell"]) fun _ _ _ _ _ _ us hl => match us, hl with | [_], _ => rfl
  have F2 := fun_mk (st := s_u_law_number) l2 e2 k2
  have b2 := F2.binds (ps := ["cell"]) fun _ _ _ _ _ _ us hl => match us, hl with | [_], _ => rfl
  have F3 := fun_mk (st := s_u_law_draw) l3 e3 k3
  have b3 := F3.binds (ps := ["state", "many"]) fun _ _ _ _ _ _ us hl => match us, hl with | [_, _], _ => rfl
  have F4 := fun_mk (st := s_u_law_word) l4 e4 k4
  have b4 := F4.binds (ps := ["state", "size"]) fun _ _ _ _ _ _ us hl => match us, hl with | [_, _], _ => rfl
  have F5 := fun_mk (st := s_u_law_names) l5 e5 k5
  have b5 := F5.binds (ps := ["state", "count"]) fun _ _ _ _ _ _ us hl => match us, hl with | [_, _], _ => rfl
  have F6 := fun_mk (st := s_u_law_two) l6 e6 k6
  have b6 := F6.binds (ps := ["state"]) fun _ _ _ _ _ _ us hl => match us, hl with | [_], _ => rfl
  have F7 := fun_mk (st := s_u_law_leaf) l7 e7 k7
  have b7 := F7.binds (ps := ["state", "operations", "count"]) fun _ _ _ _ _ _ us hl => match us, hl with | [_, _, _], _ => rfl
  have F8 := fun_mk (st := s_u_law_term) l8 e8 k8
  have b8 := F8.binds (ps := ["state", "operations", "count", "height"]) fun _ _ _ _ _ _ us hl => match us, hl with | [_, _, _, _], _ => rfl
  have F9 := fun_mk (st := s_u_law_same) l9 e9 k9
  have b9 := F9.binds (ps := ["first", "second"]) fun _ _ _ _ _ _ us hl => match us, hl with | [_, _], _ => rfl
  have F10 := fun_mk (st := s_u_law_tells) l10 e10 k10
  have b10 := F10.binds (ps := ["actual", "due"]) fun _ _ _ _ _ _ us hl => match us, hl with | [_, _], _ => rfl
  have F11 := fun_mk (st := s_u_law_positions) l11 e11 k11
  have b11 := F11.binds (ps := ["term"]) fun _ _ _ _ _ _ us hl => match us, hl with | [_], _ => rfl
  have F12 := fun_mk (st := s_u_law_subterm) l12 e12 k12
  have b12 := F12.binds (ps := ["term", "position"]) fun _ _ _ _ _ _ us hl => match us, hl with | [_, _], _ => rfl
  have F13 := fun_mk (st := s_u_law_replace) l13 e13 k13
  have b13 := F13.binds (ps := ["term", "position", "new"]) fun _ _ _ _ _ _ us hl => match us, hl with | [_, _, _], _ => rfl
  have F14 := fun_mk (st := s_u_law_moved) l14 e14 k14
  have b14 := F14.binds (ps := ["state", "names", "term"]) fun _ _ _ _ _ _ us hl => match us, hl with | [_, _, _], _ => rfl
  have F15 := fun_mk (st := s_u_flat_arguments) l15 e15 k15
  have b15 := F15.binds (ps := ["name", "term"]) fun _ _ _ _ _ _ us hl => match us, hl with | [_, _], _ => rfl
  have F16 := fun_mk (st := s_symbols) l16 e16 k16
  have b16 := F16.binds (ps := ["term"]) fun _ _ _ _ _ _ us hl => match us, hl with | [_], _ => rfl
  have F17 := fun_mk (st := s_order_key) l17 e17 k17
  have b17 := F17.binds (ps := ["term"]) fun _ _ _ _ _ _ us hl => match us, hl with | [_], _ => rfl
  have F18 := fun_mk (st := s_u_combined) l18 e18 k18
  have b18 := F18.binds (ps := ["operations", "term"]) fun _ _ _ _ _ _ us hl => match us, hl with | [_, _], _ => rfl
  have F19 := fun_mk (st := s_profile) l19 e19 k19
  have b19 := F19.binds (ps := ["term"]) fun _ _ _ _ _ _ us hl => match us, hl with | [_], _ => rfl
  have F20 := fun_mk (st := s_measure) l20 e20 k20
  have b20 := F20.binds (ps := ["term"]) fun _ _ _ _ _ _ us hl => match us, hl with | [_], _ => rfl
  have F21 := fun_mk (st := s_is_within) l21 e21 k21
  have b21 := F21.binds (ps := ["total", "deepest"]) fun _ _ _ _ _ _ us hl => match us, hl with | [_, _], _ => rfl
  have F22 := fun_mk (st := s_check_size) l22 e22 k22
  have b22 := F22.binds (ps := ["term"]) fun _ _ _ _ _ _ us hl => match us, hl with | [_], _ => rfl
  have F23 := fun_mk (st := s_combined_form) l23 e23 k23
  have b23 := F23.binds (ps := ["operations", "term"]) fun _ _ _ _ _ _ us hl => match us, hl with | [_, _], _ => rfl
  have F24 := fun_mk (st := s_are_combined_alike) l24 e24 k24
  have b24 := F24.binds (ps := ["operations", "first", "second"]) fun _ _ _ _ _ _ us hl => match us, hl with | [_, _, _], _ => rfl
  have F25 := fun_mk (st := s_u_law_spoilt) l25 e25 k25
  have b25 := F25.binds (ps := ["state", "operations", "count", "term"]) fun _ _ _ _ _ _ us hl => match us, hl with | [_, _, _, _], _ => rfl
  have F26 := fun_mk (st := s_u_law_flat) l26 e26 k26
  have b26 := F26.binds (ps := ["names", "name", "term"]) fun _ _ _ _ _ _ us hl => match us, hl with | [_, _, _], _ => rfl
  have F27 := fun_mk (st := s_u_law_symbols) l27 e27 k27
  have b27 := F27.binds (ps := ["term"]) fun _ _ _ _ _ _ us hl => match us, hl with | [_], _ => rfl
  have F28 := fun_mk (st := s_u_law_compare) l28 e28 k28
  have b28 := F28.binds (ps := ["first", "second"]) fun _ _ _ _ _ _ us hl => match us, hl with | [_, _], _ => rfl
  have F29 := fun_mk (st := s_u_law_combined) l29 e29 k29
  have b29 := F29.binds (ps := ["names", "term"]) fun _ _ _ _ _ _ us hl => match us, hl with | [_, _], _ => rfl
  have F30 := fun_mk (st := s_law) l30 e30 k30
  have b30 := F30.binds (ps := ["script"]) fun _ _ _ _ _ _ us hl => match us, hl with | [_], _ => rfl
  have T : Tx K mg ⟨f0, _, f1, _, f2, _, f3, _, f4, _, f5, _, f6, _, f7, _, f8, _, f9, _, f10, _, f11, _, f12, _, f13, _, f14, _, f15, _, f16, _, f17, _, f18, _, f19, _, f20, _, f21, _, f22, _, f23, _, f24, _, f25, _, f26, _, f27, _, f28, _, f29, _, fa, _, c_TooLarge⟩ := ⟨F0, b0, PySem.W.mg_of X G a0, F1, b1, PySem.W.mg_of X G a1, F2, b2, PySem.W.mg_of X G a2, F3, b3, PySem.W.mg_of X G a3, F4, b4, PySem.W.mg_of X G a4, F5, b5, PySem.W.mg_of X G a5, F6, b6, PySem.W.mg_of X G a6, F7, b7, PySem.W.mg_of X G a7, F8, b8, PySem.W.mg_of X G a8, F9, b9, PySem.W.mg_of X G a9, F10, b10, PySem.W.mg_of X G a10, F11, b11, PySem.W.mg_of X G a11, F12, b12, PySem.W.mg_of X G a12, F13, b13, PySem.W.mg_of X G a13, F14, b14, PySem.W.mg_of X G a14, F15, b15, PySem.W.mg_of X G a15, F16, b16, PySem.W.mg_of X G a16, F17, b17, PySem.W.mg_of X G a17, F18, b18, PySem.W.mg_of X G a18, F19, b19, PySem.W.mg_of X G a19, F20, b20, PySem.W.mg_of X G a20, F21, b21, PySem.W.mg_of X G a21, F22, b22, PySem.W.mg_of X G a22, F23, b23, PySem.W.mg_of X G a23, F24, b24, PySem.W.mg_of X G a24, F25, b25, PySem.W.mg_of X G a25, F26, b26, PySem.W.mg_of X G a26, F27, b27, PySem.W.mg_of X G a27, F28, b28, PySem.W.mg_of X G a28, F29, b29, PySem.W.mg_of X G a29, F30, b30, PySem.W.mg_of X G a30, PySem.W.mg_none_of X G z_bool, PySem.W.mg_none_of X G z_int, PySem.W.mg_none_of X G z_isinstance, PySem.W.mg_none_of X G z_len, PySem.W.mg_none_of X G z_list, PySem.W.mg_none_of X G z_range, PySem.W.mg_none_of X G z_sorted, PySem.W.mg_none_of X G z_str, PySem.W.mg_none_of X G z_tuple, ⟨tk_MAX_SIZE, PySem.W.mg_of X G zc_MAX_SIZE⟩, ⟨tk_MAX_DEPTH, PySem.W.mg_of X G zc_MAX_DEPTH⟩, err_mk X G xa_TooLarge xk_TooLarge xe_TooLarge xb_TooLarge xt_TooLarge xs_TooLarge xhg_TooLarge xhk_TooLarge xhd_TooLarge xha_TooLarge xhn_TooLarge xht_TooLarge xhm_TooLarge⟩
  refine ⟨PySem.W.fnOf "law" "law" (defArgs s_law) (defBody s_law) (defScope s_law) .none kV30 dc30 pm30 an30 cd30 ct30, fun s v => .of_eq rfl, fun base _ _ => ?_⟩
  exact ok_law (P := l.prog) (w := w) (base := base) T
theorem walk {l : PySem.W.OpenLaw} {q : Program} {loose : List Str} {XP : (Str → Option Value) → Heap → Prop} {YP : World → Heap → Prop} {d : DefRec} {K : Params → PySem.W.Frag} (hn : l.most = some 63) (hdf : d.params.defaults = [])
    (hY : ∀ (w : World) (h : Heap), YP w h → (K w.params).In h)
    (F : ∀ (w : World) (mg : Str → Option Value) (fa : Addr) (h : Heap), (K w.params).In h → h.Ns mainGlobals mg → mg d.name = some (.ref fa) →
      ∃ fd : FuncData, (∀ (s : Shared) (u : Value), BindsTo s fd ⟨[u], []⟩ [("script", u)]) ∧ ∀ base : Heap, (K w.params).In base → base.Ns mainGlobals mg → FnOk l.prog w (K w.params) mg base CX0 158 fa fd ["script"] (sp_law (K w.params))) :
    PySem.W.WalkO q loose XP YP l.row.toRowW d [] (fun f vs => PySem.call f vs) :=
  L2.walk_of (n := 63) (k := 158) (x := "script") (CX := fun _ => CX0) (sp := fun w => sp_law (K w.params)) hn (by decide) hdf ⟨rfl, by decide, by decide⟩ hY F (fun _ _ a ns hl _ hS => ⟨a, ns, rfl, hS, hl, fun _ => rfl⟩) fun _ _ _ _ _ z => z
end Lw
open PySem PySem.W PyProof.Rows
set_option maxRecDepth 100000 in
set_option maxHeartbeats 0 in
theorem PySem.Challenge.cw_joinedends_k31_whole_combined_alike_holds : PySem.Challenge.rw_joinedends_k31_whole_combined_alike.Holds := by
  w_on; o_law; k_head; (case hw => w_witness2)
  k_fill
  refine Lw.walk (l := PySem.Challenge.rw_joinedends_k31_whole_combined_alike) rfl rfl (fun w h Y => PySem.W.kIn_of Y) ?F
  case F =>
    intro w mg fa h KX G hmg
    refine' Lw.all_mk KX G hmg ?a0 ?l0 ?e0 ?k0 ?a1 ?l1 ?e1 ?k1 ?a2 ?l2 ?e2 ?k2 ?a3 ?l3 ?e3 ?k3 ?a4 ?l4 ?e4 ?k4 ?a5 ?l5 ?e5 ?k5 ?a6 ?l6 ?e6 ?k6 ?a7 ?l7 ?e7 ?k7 ?a8 ?l8 ?e8 ?k8 ?a9 ?l9 ?e9 ?k9 ?a10 ?l10 ?e10 ?k10 ?a11 ?l11 ?e11 ?k11 ?a12 ?l12 ?e12 ?k12 ?a13 ?l13 ?e13 ?k13 ?a14 ?l14 ?e14 ?k14 ?a15 ?l15 ?e15 ?k15 ?a16 ?l16 ?e16 ?k16 ?a17 ?l17 ?e17 ?k17 ?a18 ?l18 ?e18 ?k18 ?a19 ?l19 ?e19 ?k19 ?a20 ?l20 ?e20 ?k20 ?a21 ?l21 ?e21 ?k21 ?a22 ?l22 ?e22 ?k22 ?a23 ?l23 ?e23 ?k23 ?a24 ?l24 ?e24 ?k24 ?a25 ?l25 ?e25 ?k25 ?a26 ?l26 ?e26 ?k26 ?a27 ?l27 ?e27 ?k27 ?a28 ?l28 ?e28 ?k28 ?a29 ?l29 ?e29 ?k29 ?a30 ?l30 ?e30 ?k30 ?z_bool ?z_int ?z_isinstance ?z_len ?z_list ?z_range ?z_sorted ?z_str ?z_tuple ?zc_MAX_SIZE ?zc_MAX_DEPTH ?xa_TooLarge ?xk_TooLarge ?xe_TooLarge ?xb_TooLarge ?xt_TooLarge ?xs_TooLarge ?xhg_TooLarge ?xhk_TooLarge ?xhd_TooLarge ?xha_TooLarge ?xhn_TooLarge ?xht_TooLarge ?xhm_TooLarge
    (case xa_TooLarge => k_is)
    (case a0 => k_is)
    (case l0 => k_is)
    (case e0 => k_is)
    (case k0 => k_is)
    (case a1 => k_is)
    (case l1 => k_is)
    (case e1 => k_is)
    (case k1 => k_is)
    (case a2 => k_is)
    (case l2 => k_is)
    (case e2 => k_is)
    (case k2 => k_is)
    (case a3 => k_is)
    (case l3 => k_is)
    (case e3 => k_is)
    (case k3 => k_is)
    (case a4 => k_is)
    (case l4 => k_is)
    (case e4 => k_is)
    (case k4 => k_is)
    (case a5 => k_is)
    (case l5 => k_is)
    (case e5 => k_is)
    (case k5 => k_is)
    (case a6 => k_is)
    (case l6 => k_is)
    (case e6 => k_is)
    (case k6 => k_is)
    (case a7 => k_is)
    (case l7 => k_is)
    (case e7 => k_is)
    (case k7 => k_is)
    (case a8 => k_is)
    (case l8 => k_is)
    (case e8 => k_is)
    (case k8 => k_is)
    (case a9 => k_is)
    (case l9 => k_is)
    (case e9 => k_is)
    (case k9 => k_is)
    (case a10 => k_is)
    (case l10 => k_is)
    (case e10 => k_is)
    (case k10 => k_is)
    (case a11 => k_is)
    (case l11 => k_is)
    (case e11 => k_is)
    (case k11 => k_is)
    (case a12 => k_is)
    (case l12 => k_is)
    (case e12 => k_is)
    (case k12 => k_is)
    (case a13 => k_is)
    (case l13 => k_is)
    (case e13 => k_is)
    (case k13 => k_is)
    (case a14 => k_is)
    (case l14 => k_is)
    (case e14 => k_is)
    (case k14 => k_is)
    (case a15 => k_is)
    (case l15 => k_is)
    (case e15 => k_is)
    (case k15 => k_is)
    (case a16 => k_is)
    (case l16 => k_is)
    (case e16 => k_is)
    (case k16 => k_is)
    (case a17 => k_is)
    (case l17 => k_is)
    (case e17 => k_is)
    (case k17 => k_is)
    (case a18 => k_is)
    (case l18 => k_is)
    (case e18 => k_is)
    (case k18 => k_is)
    (case a19 => k_is)
    (case l19 => k_is)
    (case e19 => k_is)
    (case k19 => k_is)
    (case a20 => k_is)
    (case l20 => k_is)
    (case e20 => k_is)
    (case k20 => k_is)
    (case a21 => k_is)
    (case l21 => k_is)
    (case e21 => k_is)
    (case k21 => k_is)
    (case a22 => k_is)
    (case l22 => k_is)
    (case e22 => k_is)
    (case k22 => k_is)
    (case a23 => k_is)
    (case l23 => k_is)
    (case e23 => k_is)
    (case k23 => k_is)
    (case a24 => k_is)
    (case l24 => k_is)
    (case e24 => k_is)
    (case k24 => k_is)
    (case a25 => k_is)
    (case l25 => k_is)
    (case e25 => k_is)
    (case k25 => k_is)
    (case a26 => k_is)
    (case l26 => k_is)
    (case e26 => k_is)
    (case k26 => k_is)
    (case a27 => k_is)
    (case l27 => k_is)
    (case e27 => k_is)
    (case k27 => k_is)
    (case a28 => k_is)
    (case l28 => k_is)
    (case e28 => k_is)
    (case k28 => k_is)
    (case a29 => k_is)
    (case l29 => k_is)
    (case e29 => k_is)
    (case k29 => k_is)
    (case a30 => k_is)
    (case l30 => k_is)
    (case e30 => k_is)
    (case k30 => k_is)
    (case z_bool => k_is)
    (case z_int => k_is)
    (case z_isinstance => k_is)
    (case z_len => k_is)
    (case z_list => k_is)
    (case z_range => k_is)
    (case z_sorted => k_is)
    (case z_str => k_is)
    (case z_tuple => k_is)
    (case zc_MAX_SIZE => k_is)
    (case zc_MAX_DEPTH => k_is)
    (case xk_TooLarge => k_is)
    (case xe_TooLarge => k_exc)
    (case xb_TooLarge => k_is)
    (case xt_TooLarge => k_is)
    (case xs_TooLarge => first | rfl | k_is)
    (case xhg_TooLarge => k_is)
    (case xhk_TooLarge => k_is)
    (case xhd_TooLarge => k_is)
    (case xha_TooLarge => k_is)
    (case xhn_TooLarge => k_is)
    (case xht_TooLarge => k_is)
    (case xhm_TooLarge => k_is)
#print axioms PySem.Challenge.cw_joinedends_k31_whole_combined_alike_holds
