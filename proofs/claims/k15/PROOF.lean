import PyProof.Rows.All
import Wide.All
import OpenK.AllK
import Wide.FinOn
import HandS.ForMost
import HandS.IsInst
import HandS.FStr
import HandS.Style
import PyProof.ReprRoads
import HandS.Dict
import HandS.Words
import HandS.Ends
import PyProof.ReprLen
import PyProof.StrLawsRepr
import PySem.Challenge.RW_joinedends_k15_reversed_steps
set_option Elab.async false
set_option maxRecDepth 100000
/-! ### terms, and what a heap says of them -/
namespace J
open PySem L2

/-- a term of the document -/
inductive Tm where
  | var (n : Int)
  | app (f : Str) (ts : List Tm)

mutual
def Tm.sz : Tm → Nat
  | .var _ => 1
  | .app _ ts => 1 + Tm.szs ts
def Tm.szs : List Tm → Nat
  | [] => 0
  | t :: ts => Tm.sz t + Tm.szs ts
end
mutual
def Tm.dep : Tm → Nat
  | .var _ => 1
  | .app _ ts => 1 + Tm.deps ts
def Tm.deps : List Tm → Nat
  | [] => 0
  | t :: ts => max (Tm.dep t) (Tm.deps ts)
end
mutual
/-- t stands in H as the value v -/
def TmIn (H : Hp) : Tm → V → Prop
  | .var n, v => v = .int n
  | .app f ts, v => ∃ a vs, v = .ref a ∧ H a = some (.tup (.str f :: vs)) ∧ TmsIn H ts vs
def TmsIn (H : Hp) : List Tm → List V → Prop
  | [], vs => vs = []
  | t :: ts, vs => ∃ v r, vs = v :: r ∧ TmIn H t v ∧ TmsIn H ts r
end
/-- the arity of the k-th drawn operation -/
def ar (k : Nat) : Nat := if k < 2 then 0 else k - 1
mutual
/-- variables below B, applications of the named operations -/
def Tm.wf (fs : List Str) (B : Int) : Tm → Prop
  | .var n => 0 ≤ n ∧ n < B
  | .app f ts => (∃ k, fs[k]? = some f ∧ ts.length = ar k) ∧ Tm.wfs fs B ts
def Tm.wfs (fs : List Str) (B : Int) : List Tm → Prop
  | [] => True
  | t :: ts => Tm.wf fs B t ∧ Tm.wfs fs B ts
end

/-- induction over terms -/
theorem Tm.ind {P : Tm → Prop} (hv : ∀ n, P (.var n)) (ha : ∀ f ts, (∀ t ∈ ts, P t) → P (.app f ts)) : ∀ t, P t
  | .var n => hv n
  | .app f ts => ha f ts (go ts)
where go : ∀ ts : List Tm, ∀ t ∈ ts, P t
  | [], _, h => nomatch h
  | u :: us, t, h => by
    rcases List.mem_cons.mp h with e | h
    · rw [e]; exact Tm.ind hv ha u
    · exact go us t h

theorem Tm.sz_pos : ∀ t : Tm, 1 ≤ t.sz
  | .var _ => Nat.le_refl _
  | .app _ _ => by show 1 ≤ 1 + _; omega
theorem Tm.dep_pos : ∀ t : Tm, 1 ≤ t.dep
  | .var _ => Nat.le_refl _
  | .app _ _ => by show 1 ≤ 1 + _; omega
theorem Tm.dep_of_mem : ∀ {ts : List Tm} {t : Tm}, t ∈ ts → t.dep ≤ Tm.deps ts
  | u :: us, t, h => by
    show t.dep ≤ max u.dep (Tm.deps us)
    rcases List.mem_cons.mp h with e | h
    · rw [e]; omega
    · have := Tm.dep_of_mem h; omega
theorem Tm.deps_le : ∀ {ts : List Tm} {n : Nat}, (∀ t ∈ ts, t.dep ≤ n) → Tm.deps ts ≤ n
  | [], _, _ => Nat.zero_le _
  | u :: us, n, h => by
    have h1 := h u (List.mem_cons_self ..)
    have h2 := Tm.deps_le (ts := us) fun t m => h t (List.mem_cons_of_mem _ m)
    show max u.dep (Tm.deps us) ≤ n
    omega
theorem Tm.szs_le : ∀ {ts : List Tm} {M : Nat}, (∀ t ∈ ts, 2 * t.sz + 1 ≤ M) → 2 * Tm.szs ts + ts.length ≤ ts.length * M
  | [], _, _ => by show 2 * 0 + 0 ≤ _; omega
  | u :: us, M, h => by
    have h1 := h u (List.mem_cons_self ..)
    have h2 := Tm.szs_le (ts := us) (M := M) fun t m => h t (List.mem_cons_of_mem _ m)
    show 2 * (u.sz + Tm.szs us) + (us.length + 1) ≤ (us.length + 1) * M
    rw [Nat.add_mul, Nat.one_mul]
    omega
theorem Tm.szs_three {ts : List Tm} {h : Nat} (hl : ts.length ≤ 3) (hw : ∀ t ∈ ts, 2 * t.sz + 1 ≤ 3 ^ h) : 2 * (1 + Tm.szs ts) + 1 ≤ 3 ^ (h + 1) := by
  have h1 := Tm.szs_le hw
  have h3 : 1 ≤ 3 ^ h := Nat.pow_pos (by decide)
  have h2 : 3 ^ (h + 1) = 3 ^ h * 3 := rfl
  generalize 3 ^ h = M at *
  rw [h2]
  match e : ts.length, hl with
  | 0, _ => rw [e] at h1; omega
  | 1, _ => rw [e] at h1; omega
  | 2, _ => rw [e] at h1; omega
  | 3, _ => rw [e] at h1; omega
theorem Tm.wf_of_mem {fs : List Str} {B : Int} : ∀ {ts : List Tm} {t : Tm}, Tm.wfs fs B ts → t ∈ ts → t.wf fs B
  | u :: us, t, w, h => by
    have w : u.wf fs B ∧ Tm.wfs fs B us := w
    rcases List.mem_cons.mp h with e | h
    · rw [e]; exact w.1
    · exact Tm.wf_of_mem w.2 h
theorem Tm.wfs_of {fs : List Str} {B : Int} : ∀ {ts : List Tm}, (∀ t ∈ ts, t.wf fs B) → Tm.wfs fs B ts
  | [], _ => True.intro
  | u :: us, h => ⟨h u (List.mem_cons_self ..), Tm.wfs_of fun t m => h t (List.mem_cons_of_mem _ m)⟩

/-- a tuple that is known stays known -/
def Tu (H H' : Hp) : Prop := ∀ a xs, H a = some (.tup xs) → H' a = some (.tup xs)
theorem Tu.refl (H : Hp) : Tu H H := fun _ _ h => h
theorem Tu.trans {H H1 H2 : Hp} (a : Tu H H1) (b : Tu H1 H2) : Tu H H2 := fun x y h => b x y (a x y h)
theorem tu_same {H H' : Hp} (s : Same H H') : Tu H H' := fun a _ h => s a _ h
theorem tu_upd {H : Hp} {p : Addr} {o : HO} (h : ∀ xs, H p ≠ some (.tup xs)) : Tu H (upd H p o) := fun a xs e => by
  have ne : a ≠ p := fun z => by subst z; exact h _ e
  rw [upd_ne ne]; exact e
mutual
theorem TmIn.mono {H H' : Hp} (s : Tu H H') : ∀ (t : Tm) (v : V), TmIn H t v → TmIn H' t v
  | .var _, _, h => h
  | .app _ ts, _, ⟨a, vs, e, h, r⟩ => ⟨a, vs, e, s _ _ h, TmsIn.mono s ts vs r⟩
theorem TmsIn.mono {H H' : Hp} (s : Tu H H') : ∀ (ts : List Tm) (vs : List V), TmsIn H ts vs → TmsIn H' ts vs
  | [], _, h => h
  | t :: ts, _, ⟨v, r, e, h, q⟩ => ⟨v, r, e, TmIn.mono s t v h, TmsIn.mono s ts r q⟩
end
theorem TmIn.tu {H H' : Hp} {t : Tm} {v : V} (h : TmIn H t v) (s : Tu H H') : TmIn H' t v := TmIn.mono s t v h
theorem TmsIn.tu {H H' : Hp} {t : List Tm} {v : List V} (h : TmsIn H t v) (s : Tu H H') : TmsIn H' t v := TmsIn.mono s t v h
theorem TmsIn.length {H : Hp} : ∀ {ts : List Tm} {vs : List V}, TmsIn H ts vs → vs.length = ts.length
  | [], _, h => by cases (show _ = [] from h); rfl
  | t :: ts, _, ⟨v, r, e, _, q⟩ => by rw [e, List.length_cons, List.length_cons, TmsIn.length q]
theorem TmsIn.get {H : Hp} : ∀ {ts : List Tm} {vs : List V} {i : Nat} {v : V}, TmsIn H ts vs → vs[i]? = some v → ∃ t, ts[i]? = some t ∧ TmIn H t v
  | [], _, i, v, h, e => by cases (show _ = [] from h); simp at e
  | t :: ts, _, 0, v, ⟨w, r, rfl, h, q⟩, e => by
    have e : w = v := by simpa using e
    exact ⟨t, rfl, e ▸ h⟩
  | t :: ts, _, i + 1, v, ⟨w, r, rfl, h, q⟩, e => by
    obtain ⟨u, h1, h2⟩ := TmsIn.get (i := i) (v := v) q (by simpa using e)
    exact ⟨u, by simpa using h1, h2⟩
theorem TmsIn.get' {H : Hp} {ts : List Tm} {vs : List V} {i : Nat} {t : Tm} (h : TmsIn H ts vs) (e : ts[i]? = some t) : ∃ v, vs[i]? = some v ∧ TmIn H t v := by
  have hi : i < ts.length := (List.getElem?_eq_some_iff.mp e).1
  rw [← h.length] at hi
  obtain ⟨u, h1, h2⟩ := h.get (List.getElem?_eq_getElem hi)
  rw [e] at h1
  cases h1
  exact ⟨_, List.getElem?_eq_getElem hi, h2⟩
theorem TmsIn.append {H : Hp} : ∀ {ts us : List Tm} {vs ws : List V}, TmsIn H ts vs → TmsIn H us ws → TmsIn H (ts ++ us) (vs ++ ws)
  | [], us, vs, ws, h, q => by cases (show vs = [] from h); exact q
  | t :: ts, us, _, ws, ⟨v, r, rfl, h, k⟩, q => ⟨v, r ++ ws, rfl, h, TmsIn.append k q⟩
theorem TmsIn.one {H : Hp} {t : Tm} {v : V} (h : TmIn H t v) : TmsIn H [t] [v] := ⟨v, [], rfl, h, rfl⟩

/-! ### heaps -/
theorem same_new {H : Hp} {p : Addr} (h : H p = none) (o : HO) : Same H (upd H p o) := fun b u q => by rw [upd_ne (ne_of_none q h)]; exact q
/-- what H does not know may change -/
theorem same_mut {H H' : Hp} {p : Addr} (e : Same H H') (h : H p = none) (o : HO) : Same H (upd H' p o) := fun a u ha => by
  rw [upd_ne (ne_of_none ha h)]; exact e a u ha
theorem al_same {H H1 : Hp} {p : Addr} {o : HO} (n : H p = none) (e : upd H p o = H1) : Same H H1 := e ▸ same_new n o
theorem al_at {H H1 : Hp} {p : Addr} {o : HO} (e : upd H p o = H1) : H1 p = some o := by rw [← e]; exact upd_same
theorem al_mut {H0 H H1 : Hp} {p : Addr} {o : HO} (s : Same H0 H) (n : H0 p = none) (e : upd H p o = H1) : Same H0 H1 := e ▸ same_mut s n o
theorem al_but {H H1 : Hp} {p : Addr} {o : HO} (e : upd H p o = H1) : ∀ b u, H b = some u → b ≠ p → H1 b = some u := fun b u h n => by rw [← e, upd_ne n]; exact h
/-- all but the object at s stands as it stood -/
def But (s : Addr) (H H' : Hp) : Prop := ∀ b o, H b = some o → b ≠ s → H' b = some o
theorem But.refl (s : Addr) (H : Hp) : But s H H := fun _ _ h _ => h
theorem But.trans {s : Addr} {H H1 H2 : Hp} (a : But s H H1) (b : But s H1 H2) : But s H H2 := fun c o h n => b c o (a c o h n) n
theorem but_same {s : Addr} {H H' : Hp} (h : Same H H') : But s H H' := fun b o q _ => h b o q
theorem but_upd {s : Addr} {H : Hp} (o : HO) : But s H (upd H s o) := fun b u q n => by rw [upd_ne n]; exact q
theorem But.mut {s : Addr} {H H' : Hp} {p : Addr} (e : But s H H') (h : H p = none) (o : HO) : But s H (upd H' p o) := fun a u ha n => by
  rw [upd_ne (ne_of_none ha h)]; exact e a u ha n

/-- the list at s from which a script is drawn (what is left of a number, the numbers at l, the place, the seed) -/
def St (H : Hp) (s l : Addr) : Prop := ∃ (v at0 sd : Int) (ns : List Int), H s = some (.lst [.int v, .ref l, .int at0, .int sd]) ∧ H l = some (.lst (ns.map V.int)) ∧
  0 ≤ at0 ∧ at0 ≤ (ns.length : Int) ∧ 0 ≤ v ∧ 0 ≤ sd ∧ sd < 2147483648 ∧ ns.length ≤ 63
theorem St.ne_list {H : Hp} {s l : Addr} {ns : List Int} {v at0 sd : Int} {l' : Addr} (h : H s = some (.lst [.int v, .ref l', .int at0, .int sd])) (q : H l = some (.lst (ns.map V.int))) : l ≠ s := by
  intro e; subst e
  rw [h] at q
  injection q with q; injection q with q
  match ns, q with
  | [], q => cases q
  | [_], q => injection q with _ q; cases q
  | _ :: _ :: _, q => injection q with _ q; injection q with q _; cases q
theorem St.ne {H : Hp} {s l : Addr} (h : St H s l) : l ≠ s := by
  obtain ⟨v, a, d, ns, h1, h2, r⟩ := h
  exact St.ne_list h1 h2
theorem St.same {H H' : Hp} {s l : Addr} (h : St H s l) (b : Same H H') : St H' s l := by
  obtain ⟨v, a, d, ns, h1, h2, r⟩ := h
  exact ⟨v, a, d, ns, b _ _ h1, b _ _ h2, r⟩
theorem St.lst {H : Hp} {s l : Addr} (h : St H s l) : ∃ v a d : Int, H s = some (.lst [.int v, .ref l, .int a, .int d]) := by
  obtain ⟨v, a, d, ns, h1, _⟩ := h
  exact ⟨_, _, _, h1⟩
theorem St.nums {H : Hp} {s l : Addr} (h : St H s l) : ∃ ns : List Int, H l = some (.lst (ns.map V.int)) := by
  obtain ⟨v, a, d, ns, h1, h2, _⟩ := h
  exact ⟨_, h2⟩
theorem St.upd {H : Hp} {s l D : Addr} {o : HO} (h : St H s l) (n1 : s ≠ D) (n2 : l ≠ D) : St (upd H D o) s l := by
  obtain ⟨v, a, d, ns, h1, h2, r⟩ := h
  exact ⟨v, a, d, ns, by rw [upd_ne n1]; exact h1, by rw [upd_ne n2]; exact h2, r⟩
/-- an address that was free -/
theorem St.free {H : Hp} {s l D : Addr} (h : St H s l) (n : H D = none) : s ≠ D ∧ l ≠ D := by
  obtain ⟨v, a, d, ns, h1, h2, r⟩ := h
  exact ⟨ne_of_none h1 n, ne_of_none h2 n⟩
theorem St.but {H H' : Hp} {s l p : Addr} (h : St H s l) (b : But p H H') (n1 : s ≠ p) (n2 : l ≠ p) : St H' s l := by
  obtain ⟨v, a, d, ns, h1, h2, r⟩ := h
  exact ⟨v, a, d, ns, b _ _ h1 n1, b _ _ h2 n2, r⟩
theorem St.tu {H H' : Hp} {s l : Addr} (h : St H s l) (b : But s H H') : Tu H H' := fun a xs e => b a _ e fun z => by
  obtain ⟨_, _, _, q⟩ := h.lst
  rw [z, q] at e; cases e
/-- an object of another kind than the state's -/
theorem St.ne_tup {H : Hp} {s l a : Addr} {xs : List V} (h : St H s l) (e : H a = some (.tup xs)) : a ≠ s := fun z => by
  obtain ⟨_, _, _, q⟩ := h.lst
  rw [z, q] at e; cases e
theorem St.ne_dK {H : Hp} {s l a : Addr} {xs} (h : St H s l) (e : H a = some (.dK xs)) : a ≠ s := fun z => by
  obtain ⟨_, _, _, q⟩ := h.lst
  rw [z, q] at e; cases e

/-! ### names and operations -/
def Low (z : Str) : Prop := ∀ c ∈ z.cps.toList, 97 ≤ c ∧ c ≤ 122
/-- drawn names -/
structure Names (fs : List Str) : Prop where
  low : ∀ f ∈ fs, Low f
  lo : ∀ f ∈ fs, 1 ≤ f.length
  hi : ∀ f ∈ fs, f.length ≤ 7
  nd : fs.Nodup
/-- drawn operations at o -/
def Ops (H : Hp) (o : Addr) (fs : List Str) : Prop := Names fs ∧ (fs.length = 4 ∨ fs.length = 5) ∧ ∃ as : List Addr, H o = some (.lst (as.map V.ref)) ∧ as.length = fs.length ∧
  ∀ (k : Nat) (f : Str) (a : Addr), fs[k]? = some f → as[k]? = some a → H a = some (.tup [.str f, .int (ar k)])
theorem Ops.ne {H : Hp} {o s l : Addr} {fs : List Str} (h : Ops H o fs) (q : St H s l) : o ≠ s := by
  obtain ⟨_, hl, as, h1, h2, _⟩ := h
  obtain ⟨v, a, d, ns, e, _⟩ := q
  intro z; subst z
  rw [h1] at e
  injection e with e; injection e with e
  match as, e with
  | [], e => cases e
  | x :: _, e => injection e with e _; cases e
theorem Ops.but {H H' : Hp} {o s l : Addr} {fs : List Str} (h : Ops H o fs) (q : St H s l) (b : But s H H') : Ops H' o fs := by
  have ne := h.ne q
  obtain ⟨n, hl, as, h1, h2, h3⟩ := h
  exact ⟨n, hl, as, b _ _ h1 ne, h2, fun k f a e e' => b _ _ (h3 k f a e e') (q.ne_tup (h3 k f a e e'))⟩
theorem Ops.same {H H' : Hp} {o : Addr} {fs : List Str} (h : Ops H o fs) (b : Same H H') : Ops H' o fs := by
  obtain ⟨n, hl, as, h1, h2, h3⟩ := h
  exact ⟨n, hl, as, b _ _ h1, h2, fun k f a e e' => b _ _ (h3 k f a e e')⟩
theorem Ops.get {H : Hp} {o : Addr} {fs : List Str} (h : Ops H o fs) {k : Nat} (hk : k < fs.length) : ∃ (xs : List V) (a : Addr) (f : Str), H o = some (.lst xs) ∧ xs.length = fs.length ∧ xs[k]? = some (.ref a) ∧ fs[k]? = some f ∧ H a = some (.tup [.str f, .int (ar k)]) := by
  obtain ⟨n, hl, as, h1, h2, h3⟩ := h
  have hk' : k < as.length := by omega
  refine ⟨_, as[k], fs[k], h1, by rw [List.length_map, h2], ?_, List.getElem?_eq_getElem hk, h3 k _ _ (List.getElem?_eq_getElem hk) (List.getElem?_eq_getElem hk')⟩
  rw [List.getElem?_map, List.getElem?_eq_getElem hk']; rfl

/-! ### rules whose readings name the written part -/
def rLenS (K : PySem.W.Frag) : List V → Hp → VK → Prop := fun xs H Q => ∃ p ys, xs = [.ref p] ∧ (SqL K H p ys ∨ SqT K H p ys) ∧ Q (.int ys.length) H
def rListS (K : PySem.W.Frag) : List V → Hp → VK → Prop := fun xs H Q => ∃ p ys, xs = [.ref p] ∧ (SqL K H p ys ∨ SqT K H p ys) ∧ ∀ l, H l = none → Q (.ref l) (upd H l (.lst ys))
def rTupS (K : PySem.W.Frag) : List V → Hp → VK → Prop := fun xs H Q => ∃ p ys, xs = [.ref p] ∧ ((SqL K H p ys ∧ ∀ l, H l = none → Q (.ref l) (upd H l (.tup ys))) ∨ (SqT K H p ys ∧ Q (.ref p) H))
section
variable {X : Cx}
theorem j_len : CallR X (.builtin "len") (rLenS X.K) := call_len_seq
theorem j_list : CallR X (.type "list") (rListS X.K) := call_list_of
theorem j_tuple : CallR X (.type "tuple") (rTupS X.K) := call_tuple_of
end
/-! ### two ways meet again ahead of the rest -/
theorem seq_join {t u : TS} {D : Ends} {σ : L2.St} {H : Hp} (I : L2.St → Hp → Prop) (h2 : ∀ σ' H', I σ' H' → u D σ' H') (h1 : ∀ N : L2.St → Hp → Prop, (∀ σ' H', I σ' H' → N σ' H') → t { D with nx := N } σ H) : tSeq t u D σ H := h1 (u D) h2
theorem int_of {i j : Int} (h : (V.bl (decide (i = j))) = .bl true) : i = j := by
  injection h with h; exact of_decide_eq_true h
theorem fmod_0 {a m : Int} (h : 1 ≤ m) : 0 ≤ a.fmod m := by
  rw [Int.fmod_eq_emod_of_nonneg _ (by omega)]; exact Int.emod_nonneg _ (by omega)
theorem fmod_lt {a m : Int} (h : 1 ≤ m) : a.fmod m < m := by
  rw [Int.fmod_eq_emod_of_nonneg _ (by omega)]; exact Int.emod_lt_of_pos _ (by omega)
theorem at_int {ns : List Int} {k : Int} (h0 : 0 ≤ k) (h : k < (ns.length : Int)) : ∃ n, atI (ns.map V.int) k = some (.int n) := by
  have hk : k.toNat < ns.length := by omega
  have q : atI (ns.map V.int) ((k.toNat : Nat) : Int) = some (.int ns[k.toNat]) := atI_nat (by rw [List.getElem?_map, List.getElem?_eq_getElem hk]; rfl)
  rw [Int.toNat_of_nonneg h0] at q
  exact ⟨_, q⟩
theorem at_get {xs : List V} {k : Int} {v : V} (h0 : 0 ≤ k) (h : xs[k.toNat]? = some v) : atI xs k = some v := by
  have q : atI xs ((k.toNat : Nat) : Int) = some v := atI_nat h
  rw [Int.toNat_of_nonneg h0] at q
  exact q
/-! ### contracts that nothing meets -/
theorem fn_none {P : Program} {w : World} {K : PySem.W.Frag} {mg : Str → Option Value} {base : Heap} {CX : CXT} {f : Addr} {fd : FuncData} {ps : List Str} {sp : Sp} {k : Nat} (no : ∀ vs H Q E, ¬ sp vs H Q E) : FnOk P w K mg base CX k f fd ps sp :=
  ⟨fun vs H Q E h => absurd h (no vs H Q E), fun _ _ _ _ _ _ vs Q E _ _ _ _ h => absurd h (no vs _ Q E)⟩
end J
/-! ### isinstance, slices of terms -/
namespace J
open PySem L2
section
variable {K : PySem.W.Frag} {H : Hp} {Q : VK}
theorem isi {x : V} {n m : String} {b : Bool} (ty : TyX K H x (.type n)) (h : kitB n m = some b) (q : Q (.bl b) H) : rIsi K [x, .ty m] H Q := ⟨x, .ty m, .type n, .type m, b, rfl, .ty m, ty, kit_ty h, q⟩
theorem isi_int {i : Int} {m : String} {b : Bool} (h : kitB "int" m = some b) (q : Q (.bl b) H) : rIsi K [.int i, .ty m] H Q := isi (.base (.int i)) h q
theorem isi_str {x : Str} {m : String} {b : Bool} (h : kitB "str" m = some b) (q : Q (.bl b) H) : rIsi K [.str x, .ty m] H Q := isi (.base (.str x)) h q
theorem isi_tup {a : Addr} {xs : List V} {m : String} {b : Bool} (e : H a = some (.tup xs)) (h : kitB "tuple" m = some b) (q : Q (.bl b) H) : rIsi K [.ref a, .ty m] H Q := isi (.base (.tup e)) h q
theorem isi_lst {a : Addr} {xs : List V} {m : String} {b : Bool} (e : H a = some (.lst xs)) (h : kitB "list" m = some b) (q : Q (.bl b) H) : rIsi K [.ref a, .ty m] H Q := isi (.base (.lst e)) h q
theorem isi_dK {a : Addr} {xs} {m : String} {b : Bool} (e : H a = some (.dK xs)) (h : kitB "dict" m = some b) (q : Q (.bl b) H) : rIsi K [.ref a, .ty m] H Q := isi (.base (.dK e)) h q
theorem isi_bl {i : Bool} {m : String} {b : Bool} (h : kitB "bool" m = some b) (q : Q (.bl b) H) : rIsi K [.bl i, .ty m] H Q := isi (.base (.bl i)) h q
end
theorem cut1 (x : V) (vs : List V) : cutV (x :: vs) (some 1) none = vs := by
  unfold cutV
  have e1 : HT.sIx (x :: vs).length 0 (some 1) = 1 := by
    show min 1 (vs.length + 1) = 1
    omega
  have e2 : HT.sIx (x :: vs).length (x :: vs).length none = vs.length + 1 := rfl
  rw [e1, e2]
  simp
theorem sl1c (x : V) (vs : List V) : ¬ (HT.sIx (x :: vs).length 0 (some 1) = 0 ∧ HT.sIx (x :: vs).length (x :: vs).length none = (x :: vs).length) := by
  intro ⟨z, _⟩
  have e1 : HT.sIx (x :: vs).length 0 (some 1) = 1 := by
    show min 1 (vs.length + 1) = 1
    omega
  rw [e1] at z; cases z
theorem at_zero {x : V} {xs : List V} : atI (x :: xs) 0 = some x := atI_nat (j := 0) rfl
/-- t[1:] of an application -/
theorem sl1 {K : PySem.W.Frag} {H : Hp} {Q : VK} {a : Addr} {x : V} {vs : List V} (h : H a = some (.tup (x :: vs))) (q : ∀ p, H p = none → Q (.ref p) (upd H p (.tup vs))) : rSlT K (.ref a) (some 1) none H Q := by
  refine ⟨a, _, rfl, SqT.of h, ?_, ?_⟩
  · intro ⟨z, _⟩
    have e1 : HT.sIx (x :: vs).length 0 (some 1) = 1 := by
      show min 1 (vs.length + 1) = 1
      omega
    rw [e1] at z; cases z
  · rw [cut1]; exact q
theorem But.same {s : Addr} {H H' : Hp} (b : But s H H') {H0 : Hp} (k : Same H0 H) (n : H0 s = none) : Same H0 H' := fun a o e => b a o (k a o e) (ne_of_none e n)
theorem But.upd {s : Addr} {H H' : Hp} (b : But s H H') (o : HO) : But s H (upd H' s o) := b.trans (but_upd o)
theorem but_tu {s : Addr} {H H' : Hp} (b : But s H H') (h : ∀ xs, H s ≠ some (.tup xs)) : Tu H H' := fun a xs e => b a _ e fun z => by
  rw [z] at e; exact h _ e
theorem lst_not_tup {H : Hp} {p : Addr} {ys : List V} (h : H p = some (.lst ys)) : ∀ xs, H p ≠ some (.tup xs) := fun xs e => by
  rw [h] at e; cases e
theorem TmIn.dep_arg {f : Str} {ts : List Tm} {t : Tm} {N : Nat} (h : (Tm.app f ts).dep ≤ N + 1) (m : t ∈ ts) : t.dep ≤ N := by
  have h : 1 + Tm.deps ts ≤ N + 1 := h
  have := Tm.dep_of_mem m
  omega
theorem Tm.len_le : ∀ ts : List Tm, ts.length ≤ Tm.szs ts
  | [] => Nat.le_refl _
  | u :: us => by
    have h1 := u.sz_pos
    have h2 := Tm.len_le us
    show us.length + 1 ≤ u.sz + Tm.szs us
    omega
theorem Tm.sz_arg : ∀ {ts : List Tm} {t : Tm}, t ∈ ts → t.sz ≤ Tm.szs ts
  | u :: us, t, h => by
    show t.sz ≤ u.sz + Tm.szs us
    rcases List.mem_cons.mp h with e | h
    · rw [e]; omega
    · have := Tm.sz_arg h; omega
end J
/-! ### tests by their meaning -/
namespace J
open PySem L2
theorem ifD {p : Prop} [Decidable p] {A B : Prop} (h1 : p → A) (h2 : ¬ p → B) : if decide p = true then A else B := ite2 (fun e => h1 (of_decide_eq_true e)) fun e => h2 fun z => e (decide_eq_true z)
theorem ifN {p : Prop} [Decidable p] {A B : Prop} (h1 : ¬ p → A) (h2 : p → B) : if (!decide p) = true then A else B := by
  by_cases h : p
  · rw [decide_eq_true h]; exact h2 h
  · rw [decide_eq_false h]; exact h1 h
theorem ifEq {i j : Int} {A B : Prop} (h1 : i = j → A) (h2 : i ≠ j → B) : if decide (V.int i = V.int j) = true then A else B := ifD (fun e => h1 (by injection e)) fun e => h2 fun z => e (by rw [z])
theorem ifNe {i j : Int} {A B : Prop} (h1 : i ≠ j → A) (h2 : i = j → B) : if (!decide (V.int i = V.int j)) = true then A else B := ifN (fun e => h1 fun z => e (by rw [z])) fun e => h2 (by injection e)
theorem ifEqS {i j : Str} {A B : Prop} (h1 : i = j → A) (h2 : i ≠ j → B) : if decide (V.str i = V.str j) = true then A else B := ifD (fun e => h1 (by injection e)) fun e => h2 fun z => e (by rw [z])
theorem ifNeS {i j : Str} {A B : Prop} (h1 : i ≠ j → A) (h2 : i = j → B) : if (!decide (V.str i = V.str j)) = true then A else B := ifN (fun e => h1 fun z => e (by rw [z])) fun e => h2 (by injection e)
theorem ifB {b : Bool} {A B : Prop} (h1 : b = true → A) (h2 : b = false → B) : if b = true then A else B := ite2 h1 fun e => h2 (by cases b; rfl; exact absurd rfl e)
theorem ifNB {b : Bool} {A B : Prop} (h1 : b = false → A) (h2 : b = true → B) : if (!b) = true then A else B := by
  cases b with
  | true => exact h2 rfl
  | false => exact h1 rfl
theorem list_take_succ {α : Type} {l : List α} {i : Nat} {x : α} (h : l[i]? = some x) : l.take (i + 1) = l.take i ++ [x] := by
  rw [List.take_succ, h]; rfl
end J
namespace J
open PySem L2
mutual
theorem Tm.wf_mono {fs : List Str} {B B' : Int} (h : B ≤ B') : ∀ t : Tm, t.wf fs B → t.wf fs B'
  | .var n, w => by
    have w : 0 ≤ n ∧ n < B := w
    exact ⟨w.1, by omega⟩
  | .app f ts, w => ⟨w.1, Tm.wfs_mono h ts w.2⟩
theorem Tm.wfs_mono {fs : List Str} {B B' : Int} (h : B ≤ B') : ∀ ts : List Tm, Tm.wfs fs B ts → Tm.wfs fs B' ts
  | [], _ => True.intro
  | t :: ts, w => ⟨Tm.wf_mono h t w.1, Tm.wfs_mono h ts w.2⟩
end
theorem Tm.wf.mono {fs : List Str} {B B' : Int} {t : Tm} (w : t.wf fs B) (h : B ≤ B') : t.wf fs B' := Tm.wf_mono h t w
end J

/-! ### texts as lists of signs -/
namespace J
open PySem L2

theorem len_tl (x : Str) : x.length = x.cps.toList.length := by
  show x.cps.size = _
  rw [Array.length_toList]
theorem tl_inj {x y : Str} (h : x.cps.toList = y.cps.toList) : x = y := by
  cases x; cases y
  exact congrArg Str.mk (Array.toList_inj.mp h)
theorem tl_app (x y : Str) : (x ++ y).cps.toList = x.cps.toList ++ y.cps.toList := TL.tl_append x y
theorem len_app (x y : Str) : (x ++ y).length = x.length + y.length := by
  rw [len_tl, tl_app, List.length_append, ← len_tl, ← len_tl]
/-- texts joined by nothing -/
theorem join0 : ∀ zs : List Str, (Txt.join "" zs).cps.toList = (zs.map fun z => z.cps.toList).flatten := by
  intro zs
  rw [TL.join_eq]
  show TL.tl (Str.join "" zs) = _
  rw [TL.tl_join]
  have e : TL.tl ("" : Str) = [] := rfl
  rw [e]
  induction zs with
  | nil => rfl
  | cons a r ih =>
    cases r with
    | nil => simp [TL.joinL]
    | cons b r => 
      show TL.tl a ++ ([] ++ TL.joinL [] (TL.tl b :: r.map TL.tl)) = _
      rw [List.nil_append, List.map_cons, List.flatten_cons, ← ih]
      rfl
theorem abc : ∀ k : Nat, k < 26 → ("abcdefghijklmnopqrstuvwxyz" : Str).cps.toList[k]? = some (97 + k) := by decide +kernel
theorem abc_at {r : Int} (h0 : 0 ≤ r) (h1 : r < 26) : atI ("abcdefghijklmnopqrstuvwxyz" : Str).cps.toList r = some (97 + r.toNat) := by
  have q := atI_nat (abc r.toNat (by omega))
  rw [Int.toNat_of_nonneg h0] at q
  exact q
theorem low_one {k : Nat} (h : k < 26) : Low ⟨#[97 + k]⟩ := fun c hc => by
  have hc : c ∈ [97 + k] := hc
  rw [List.mem_singleton] at hc
  omega
theorem low_app {x y : Str} (a : Low x) (b : Low y) : Low (x ++ y) := fun c hc => by
  rw [tl_app] at hc
  rcases List.mem_append.mp hc with h | h
  · exact a c h
  · exact b c h
theorem join_low {zs : List Str} (h : ∀ z ∈ zs, z.length = 1 ∧ Low z) : (Txt.join "" zs).length = zs.length ∧ Low (Txt.join "" zs) := by
  refine ⟨?_, fun c hc => ?_⟩
  · rw [len_tl, join0]
    induction zs with
    | nil => rfl
    | cons a r ih =>
      rw [List.map_cons, List.flatten_cons, List.length_append, ih fun z hz => h z (List.mem_cons_of_mem _ hz), ← len_tl, (h a (List.mem_cons_self ..)).1, List.length_cons]
      omega
  · rw [join0] at hc
    obtain ⟨l, hl, hc⟩ := List.mem_flatten.mp hc
    obtain ⟨z, hz, rfl⟩ := List.mem_map.mp hl
    exact (h z hz).2 c hc
theorem sum_ones {zs : List Str} (h : ∀ z ∈ zs, z.length = 1) : (zs.map (·.length)).sum = zs.length := by
  induction zs with
  | nil => rfl
  | cons a r ih =>
    rw [List.map_cons, List.sum_cons, ih fun z hz => h z (List.mem_cons_of_mem _ hz), h a (List.mem_cons_self ..), List.length_cons]
    omega
/-- the k-th drawn name -/
def nameAt (b e : Str) (f : Nat) (k : Nat) : Str := b ++ (⟨#[97 + (f + 3 * k) % 26]⟩ : Str) ++ e
theorem nameAt_len (b e : Str) (f k : Nat) : (nameAt b e f k).length = b.length + 1 + e.length := by
  unfold nameAt; rw [len_app, len_app]; rfl
theorem nameAt_low {b e : Str} (hb : Low b) (he : Low e) (f k : Nat) : Low (nameAt b e f k) := low_app (low_app hb (low_one (Nat.mod_lt _ (by decide)))) he
theorem nameAt_inj {b e : Str} {f i j : Nat} (hi : i < 26) (hj : j < 26) (h : nameAt b e f i = nameAt b e f j) : i = j := by
  have h1 : (nameAt b e f i).cps.toList = (nameAt b e f j).cps.toList := by rw [h]
  unfold nameAt at h1
  rw [tl_app, tl_app, tl_app, tl_app] at h1
  have h2 := List.append_cancel_right h1
  have h3 := List.append_cancel_left h2
  have h4 : 97 + (f + 3 * i) % 26 = 97 + (f + 3 * j) % 26 := by
    have h3 : [97 + (f + 3 * i) % 26] = [97 + (f + 3 * j) % 26] := h3
    injection h3
  omega
theorem names_ok {b e : Str} {f m : Nat} (hb : Low b) (he : Low e) (lb : b.length ≤ 3) (le : e.length ≤ 3) (hm : m ≤ 26) : Names ((List.range m).map (nameAt b e f)) := by
  refine ⟨fun x hx => ?_, fun x hx => ?_, fun x hx => ?_, ?_⟩
  · obtain ⟨k, _, rfl⟩ := List.mem_map.mp hx
    exact nameAt_low hb he f k
  · obtain ⟨k, _, rfl⟩ := List.mem_map.mp hx
    rw [nameAt_len]; omega
  · obtain ⟨k, _, rfl⟩ := List.mem_map.mp hx
    rw [nameAt_len]; omega
  · refine List.nodup_iff_pairwise_ne.mpr (List.pairwise_map.mpr ?_)
    refine (List.nodup_iff_pairwise_ne.mp List.nodup_range).imp_of_mem ?_
    intro i j hi hj ne h
    exact ne (nameAt_inj (by have := List.mem_range.mp hi; omega) (by have := List.mem_range.mp hj; omega) h)
end J

/-! ### symbols, variables, substitutions -/
namespace J
open PySem L2
mutual
def syms : Tm → List V
  | .var n => [.int n]
  | .app f ts => .str f :: symss ts
def symss : List Tm → List V
  | [] => []
  | t :: ts => syms t ++ symss ts
end
mutual
/-- the occurrences of variables, from left to right -/
def occ : Tm → List Int
  | .var n => [n]
  | .app _ ts => occs ts
def occs : List Tm → List Int
  | [] => []
  | t :: ts => occ t ++ occs ts
end
/-- one by one, what is not there yet -/
def adds (acc : List Int) : List Int → List Int
  | [] => acc
  | n :: r => adds (if n ∈ acc then acc else acc ++ [n]) r
def vars (t : Tm) : List Int := adds [] (occ t)
theorem adds_app : ∀ (l1 l2 acc : List Int), adds acc (l1 ++ l2) = adds (adds acc l1) l2
  | [], _, _ => rfl
  | n :: r, l2, acc => by show adds _ (r ++ l2) = adds (adds _ r) l2; rw [adds_app r l2]
theorem adds_mem : ∀ (l acc : List Int) {n : Int}, n ∈ adds acc l ↔ n ∈ acc ∨ n ∈ l
  | [], acc, n => by show n ∈ acc ↔ _; simp
  | k :: r, acc, n => by
    show n ∈ adds _ r ↔ _
    rw [adds_mem r]
    by_cases h : k ∈ acc
    · rw [if_pos h, List.mem_cons]
      constructor
      · rintro (a | a)
        · exact .inl a
        · exact .inr (.inr a)
      · rintro (a | a | a)
        · exact .inl a
        · exact .inl (a ▸ h)
        · exact .inr a
    · rw [if_neg h, List.mem_append, List.mem_singleton, List.mem_cons]
      constructor
      · rintro ((a | a) | a)
        · exact .inl a
        · exact .inr (.inl a)
        · exact .inr (.inr a)
      · rintro (a | a | a)
        · exact .inl (.inl a)
        · exact .inl (.inr a)
        · exact .inr a
theorem adds_nodup : ∀ (l acc : List Int), acc.Nodup → (adds acc l).Nodup
  | [], _, h => h
  | k :: r, acc, h => by
    show (adds _ r).Nodup
    refine adds_nodup r _ ?_
    by_cases hk : k ∈ acc
    · rw [if_pos hk]; exact h
    · rw [if_neg hk]
      refine List.nodup_append.mpr ⟨h, (by simp), fun a ha b hb => ?_⟩
      rw [List.mem_singleton] at hb
      exact fun e => hk (by rw [← hb, ← e]; exact ha)
theorem adds_two : ∀ (l b acc : List Int), adds acc (adds b l) = adds (adds acc b) l
  | [], _, _ => rfl
  | n :: r, b, acc => by
    show adds acc (adds _ r) = adds _ r
    rw [adds_two r]
    by_cases h : n ∈ b
    · rw [if_pos h, if_pos ((adds_mem b acc).mpr (.inr h))]
    · rw [if_neg h, adds_app]
      rfl
theorem adds_len : ∀ (l acc : List Int), (adds acc l).length ≤ acc.length + l.length
  | [], _ => Nat.le_refl _
  | n :: r, acc => by
    have := adds_len r (if n ∈ acc then acc else acc ++ [n])
    show (adds _ r).length ≤ acc.length + (r.length + 1)
    have h2 : (if n ∈ acc then acc else acc ++ [n]).length ≤ acc.length + 1 := by
      by_cases h : n ∈ acc
      · rw [if_pos h]; omega
      · rw [if_neg h, List.length_append]; exact Nat.le_refl _
    omega
def intsOf (l : List V) : List Int := l.filterMap fun v => match v with | .int n => some n | _ => none
theorem intsOf_app (a b : List V) : intsOf (a ++ b) = intsOf a ++ intsOf b := List.filterMap_append ..
mutual
theorem ints_syms : ∀ t : Tm, intsOf (syms t) = occ t
  | .var n => rfl
  | .app f ts => by show intsOf (symss ts) = occs ts; exact ints_symss ts
theorem ints_symss : ∀ ts : List Tm, intsOf (symss ts) = occs ts
  | [] => rfl
  | t :: ts => by show intsOf (syms t ++ symss ts) = occ t ++ occs ts; rw [intsOf_app, ints_syms t, ints_symss ts]
end
mutual
theorem syms_len : ∀ t : Tm, (syms t).length = t.sz
  | .var _ => rfl
  | .app f ts => by show (symss ts).length + 1 = 1 + Tm.szs ts; rw [symss_len ts]; omega
theorem symss_len : ∀ ts : List Tm, (symss ts).length = Tm.szs ts
  | [] => rfl
  | t :: ts => by show (syms t ++ symss ts).length = t.sz + Tm.szs ts; rw [List.length_append, syms_len t, symss_len ts]
end
mutual
theorem occ_len : ∀ t : Tm, (occ t).length ≤ t.sz
  | .var _ => Nat.le_refl _
  | .app f ts => by show (occs ts).length ≤ 1 + Tm.szs ts; have := occs_len ts; omega
theorem occs_len : ∀ ts : List Tm, (occs ts).length ≤ Tm.szs ts
  | [] => Nat.le_refl _
  | t :: ts => by show (occ t ++ occs ts).length ≤ t.sz + Tm.szs ts; have := occ_len t; have := occs_len ts; rw [List.length_append]; omega
end
theorem symss_app : ∀ a b : List Tm, symss (a ++ b) = symss a ++ symss b
  | [], _ => rfl
  | t :: ts, b => by show syms t ++ symss (ts ++ b) = (syms t ++ symss ts) ++ symss b; rw [symss_app ts b, List.append_assoc]
theorem szs_app : ∀ a b : List Tm, Tm.szs (a ++ b) = Tm.szs a + Tm.szs b
  | [], _ => by show _ = 0 + _; rw [Nat.zero_add]; rfl
  | t :: ts, b => by show t.sz + Tm.szs (ts ++ b) = (t.sz + Tm.szs ts) + Tm.szs b; rw [szs_app ts b]; omega
theorem szs_rev : ∀ a : List Tm, Tm.szs a.reverse = Tm.szs a
  | [] => rfl
  | t :: ts => by
    rw [List.reverse_cons, szs_app, szs_rev ts]
    show Tm.szs ts + (t.sz + 0) = t.sz + Tm.szs ts
    omega
theorem TmsIn.rev {H : Hp} : ∀ {ts : List Tm} {vs : List V}, TmsIn H ts vs → TmsIn H ts.reverse vs.reverse
  | [], _, h => by cases (show _ = [] from h); rfl
  | t :: ts, _, ⟨v, r, rfl, h, q⟩ => by
    rw [List.reverse_cons, List.reverse_cons]
    exact TmsIn.append (TmsIn.rev q) (TmsIn.one h)
theorem TmsIn.snoc {H : Hp} {ts : List Tm} {vs : List V} {v : V} (h : TmsIn H ts vs) (e : vs[vs.length - 1]? = some v) : ∃ us t, ts = us ++ [t] ∧ TmIn H t v ∧ TmsIn H us vs.dropLast := by
  have hl := h.length
  rcases List.eq_nil_or_concat ts with z | ⟨us, t, z⟩
  · subst z
    have : vs = [] := List.length_eq_zero_iff.mp (by rw [hl]; rfl)
    subst this
    simp at e
  · rw [List.concat_eq_append] at z
    subst z
    have hn : vs ≠ [] := fun w => by rw [w] at hl; simp at hl
    have e2 : vs = vs.dropLast ++ [v] := by
      have h1 := List.dropLast_concat_getLast hn
      have h2 : vs.getLast hn = v := by
        rw [List.getLast_eq_getElem]
        have := List.getElem?_eq_some_iff.mp e
        exact this.2
      rw [h2] at h1
      exact h1.symm
    have key : ∀ (us : List Tm) (ws : List V) (t : Tm) (v : V), us.length = ws.length → TmsIn H (us ++ [t]) (ws ++ [v]) → TmIn H t v ∧ TmsIn H us ws := by
      intro us
      induction us with
      | nil =>
        intro ws t v hl q
        have : ws = [] := List.length_eq_zero_iff.mp hl.symm
        subst this
        obtain ⟨a, r, e, h1, _⟩ := q
        injection e with e _
        exact ⟨e ▸ h1, rfl⟩
      | cons u us ih =>
        intro ws t v hl q
        match ws, hl with
        | w :: ws, hl =>
          obtain ⟨a, r, e, h1, h2⟩ := q
          injection e with e1 e2
          subst e1
          have := ih ws t v (by simpa using hl) (by rw [← e2] at h2; exact h2)
          exact ⟨this.1, w, ws, rfl, h1, this.2⟩
    rw [e2] at h
    have hl2 : us.length = vs.dropLast.length := by rw [List.length_dropLast, hl, List.length_append]; simp
    have q := key us _ t v hl2 h
    exact ⟨us, t, rfl, q.1, q.2⟩
mutual
theorem Tm.dep_le_sz : ∀ t : Tm, t.dep ≤ t.sz
  | .var _ => Nat.le_refl _
  | .app _ ts => by show 1 + Tm.deps ts ≤ 1 + Tm.szs ts; have := Tm.deps_le_szs ts; omega
theorem Tm.deps_le_szs : ∀ ts : List Tm, Tm.deps ts ≤ Tm.szs ts
  | [] => Nat.le_refl _
  | t :: ts => by show max t.dep (Tm.deps ts) ≤ t.sz + Tm.szs ts; have := Tm.dep_le_sz t; have := Tm.deps_le_szs ts; omega
end
theorem occs_app : ∀ a b : List Tm, occs (a ++ b) = occs a ++ occs b
  | [], _ => rfl
  | t :: ts, b => by show occ t ++ occs (ts ++ b) = (occ t ++ occs ts) ++ occs b; rw [occs_app ts b, List.append_assoc]
theorem szs_take (ts : List Tm) (i : Nat) : Tm.szs (ts.take i) ≤ Tm.szs ts := by
  have h := szs_app (ts.take i) (ts.drop i)
  rw [List.take_append_drop] at h
  omega
theorem map_get {l : List Int} {i : Nat} {y : V} (h : (l.map V.int)[i]? = some y) : ∃ n, l[i]? = some n ∧ y = .int n := by
  rw [List.getElem?_map] at h
  cases e : l[i]? with
  | none => rw [e] at h; cases h
  | some n => rw [e] at h; exact ⟨n, rfl, (Option.some.inj h).symm⟩
theorem inV_ints (n : Int) : ∀ l : List Int, inV (.int n) (l.map V.int) = decide (n ∈ l) := by
  intro l
  unfold inV
  rw [List.any_map]
  refine Bool.eq_iff_iff.mpr ?_
  rw [List.any_eq_true, decide_eq_true_iff]
  constructor
  · rintro ⟨x, hx, e⟩
    have e : (x == n) = true := e
    rw [← eq_of_beq e]; exact hx
  · intro h
    exact ⟨n, h, beq_self_eq_true n⟩
mutual
theorem syms_kind : ∀ (t : Tm) (y : V), y ∈ syms t → (∃ n, y = .int n) ∨ ∃ f, y = .str f
  | .var n, y, h => .inl ⟨n, by simpa [syms] using h⟩
  | .app f ts, y, h => by
    rcases List.mem_cons.mp (show y ∈ V.str f :: symss ts from h) with e | h
    · exact .inr ⟨f, e⟩
    · exact symss_kind ts y h
theorem symss_kind : ∀ (ts : List Tm) (y : V), y ∈ symss ts → (∃ n, y = .int n) ∨ ∃ f, y = .str f
  | [], _, h => nomatch h
  | t :: ts, y, h => by
    rcases List.mem_append.mp (show y ∈ syms t ++ symss ts from h) with h | h
    · exact syms_kind t y h
    · exact symss_kind ts y h
end
/-- a dict of True by ints -/
def kd (l : List Int) : List (Key × V) := l.map fun n => (.inl n, .bl true)
theorem kd_val (l : List Int) (n : Int) : valV (kd l) (.inl n) = if n ∈ l then some (.bl true) else none := by
  induction l with
  | nil => rfl
  | cons a r ih =>
    by_cases h : a = n
    · subst h
      rw [if_pos (List.mem_cons_self ..)]
      exact valV_pos (p := ((.inl a : Key), V.bl true)) rfl
    · have e : ¬ ((Sum.inl a : Key) = .inl n) := fun z => h (Sum.inl.inj z)
      show valV (((.inl a : Key), V.bl true) :: kd r) (.inl n) = _
      rw [valV_neg e, ih]
      by_cases h2 : n ∈ r
      · rw [if_pos h2, if_pos (List.mem_cons_of_mem _ h2)]
      · rw [if_neg h2, if_neg fun z => (List.mem_cons.mp z).elim (fun z => h z.symm) h2]
theorem kd_put (l : List Int) (n : Int) : putK (kd l) (.inl n) (.bl true) = kd (if n ∈ l then l else l ++ [n]) := by
  by_cases h : n ∈ l
  · rw [if_pos h]
    unfold putK
    rw [if_pos (by rw [valV_any, kd_val, if_pos h]; rfl)]
    unfold kd
    rw [List.map_map]
    refine List.map_congr_left fun a _ => ?_
    show (if (Sum.inl a : Key) = .inl n then ((Sum.inl a : Key), V.bl true) else _) = _
    by_cases e : (Sum.inl a : Key) = .inl n
    · rw [if_pos e]
    · rw [if_neg e]
  · rw [if_neg h, putK_new _ (by rw [kd_val, if_neg h])]
    unfold kd
    rw [List.map_append]; rfl
theorem kd_len (l : List Int) : (kd l).length = l.length := List.length_map _

/-! substitutions -/
mutual
def sub (m : Int → Option Tm) : Tm → Tm
  | .var n => (m n).getD (.var n)
  | .app f ts => .app f (subs m ts)
def subs (m : Int → Option Tm) : List Tm → List Tm
  | [] => []
  | t :: ts => sub m t :: subs m ts
end
theorem subs_map (m : Int → Option Tm) : ∀ ts, subs m ts = ts.map (sub m)
  | [] => rfl
  | t :: ts => by show sub m t :: subs m ts = _; rw [subs_map m ts]; rfl
/-- the dict at d says what m says -/
def SbIn (H : Hp) (d : Addr) (m : Int → Option Tm) : Prop := ∃ kvs : List (Key × V), H d = some (.dK kvs) ∧ ∀ n, match m n with
  | none => valV kvs (.inl n) = none
  | some t => ∃ v, valV kvs (.inl n) = some v ∧ TmIn H t v
theorem SbIn.mono {H H' : Hp} {d : Addr} {m : Int → Option Tm} (h : SbIn H d m) (t : Tu H H') (e : ∀ kvs, H d = some (.dK kvs) → H' d = some (.dK kvs)) : SbIn H' d m := by
  obtain ⟨kvs, h1, h2⟩ := h
  refine ⟨kvs, e _ h1, fun n => ?_⟩
  have := h2 n
  cases hm : m n with
  | none => rw [hm] at this; exact this
  | some u =>
    rw [hm] at this
    obtain ⟨v, a, b⟩ := this
    exact ⟨v, a, b.tu t⟩
theorem SbIn.same {H H' : Hp} {d : Addr} {m : Int → Option Tm} (h : SbIn H d m) (s : Same H H') : SbIn H' d m := h.mono (tu_same s) fun _ e => s _ _ e
theorem SbIn.at {H : Hp} {d : Addr} {m : Int → Option Tm} (h : SbIn H d m) : ∃ kvs, H d = some (.dK kvs) := let ⟨k, e, _⟩ := h; ⟨k, e⟩
/-- d.get(n, n) -/
theorem SbIn.get {H : Hp} {d : Addr} {m : Int → Option Tm} (h : SbIn H d m) (n : Int) : ∃ o, DGet H d (.int n) o ∧ TmIn H ((m n).getD (.var n)) (o.getD (.int n)) := by
  obtain ⟨kvs, h1, h2⟩ := h
  have := h2 n
  refine ⟨valV kvs (.inl n), DGet.k (k := Sum.inl n) h1, ?_⟩
  cases hm : m n with
  | none => rw [hm] at this; rw [this]; rfl
  | some u =>
    rw [hm] at this
    obtain ⟨v, a, b⟩ := this
    rw [a]; exact b
theorem SbIn.put {H : Hp} {d : Addr} {m : Int → Option Tm} {kvs : List (Key × V)} (h1 : H d = some (.dK kvs)) (h2 : ∀ n, match m n with | none => valV kvs (.inl n) = none | some t => ∃ v, valV kvs (.inl n) = some v ∧ TmIn H t v)
    {H' : Hp} (tu : Tu H H') {k : Int} {t : Tm} {v : V} (ht : TmIn H' t v) (e : H' d = some (.dK (putK kvs (.inl k) v))) : SbIn H' d (fun n => if n = k then some t else m n) := by
  refine ⟨_, e, fun n => ?_⟩
  have := h2 n
  rw [valV_put]
  by_cases hn : n = k
  · subst hn
    simp only [if_true]
    exact ⟨v, rfl, ht⟩
  · have hn' : ¬ ((Sum.inl n : Key) = .inl k) := fun z => hn (Sum.inl.inj z)
    simp only [if_neg hn, if_neg hn']
    cases hm : m n with
    | none => rw [hm] at this; exact this
    | some u =>
      rw [hm] at this
      obtain ⟨w, a, b⟩ := this
      exact ⟨w, a, b.tu tu⟩

/-! while xs: -/
theorem while_list {K : PySem.W.Frag} {i : Nat} {tb : TS} {D : Ends} {σ : L2.St} {H : Hp} (Pv : L2.St → Hp → Prop) (μ : L2.St → Hp → Nat) (h0 : Pv σ H)
    (hs : ∀ σ H, Pv σ H → ∃ p xs, σ[i]? = some (some (.ref p)) ∧ H p = some (.lst xs) ∧ (xs = [] → D.nx σ H) ∧ (xs ≠ [] → tb { D with nx := fun σ' H' => Pv σ' H' ∧ μ σ' H' < μ σ H, ct := fun σ' H' => Pv σ' H' ∧ μ σ' H' < μ σ H, bk := D.nx } σ H)) :
    tWhile (fun σ H Q => tVar i σ H fun x H' => ∃ k, TruV K x H' k ∧ Q k H') tb D σ H := by
  refine while_by Pv μ h0 (fun σ H p => ?_) fun σ H Q Q' m ⟨v, e, k, t, q⟩ => ⟨v, e, k, t, m _ _ q⟩
  obtain ⟨a, xs, e, hp, h1, h2⟩ := hs σ H p
  refine ⟨_, e, _, .inl ⟨xs, SqL.of hp, rfl⟩, ?_⟩
  cases xs with
  | nil => exact h1 rfl
  | cons x xs => exact h2 (List.cons_ne_nil _ _)
end J

/-! ### positions -/
namespace J
open PySem L2
mutual
def poss : Tm → List (List Int)
  | .var _ => [[]]
  | .app _ ts => [] :: posss 1 ts
def posss : Nat → List Tm → List (List Int)
  | _, [] => []
  | k, t :: ts => (poss t).map (fun q => (k : Int) :: q) ++ posss (k + 1) ts
end
/-- q is a position of t -/
def IsPos : List Int → Tm → Prop
  | [], _ => True
  | k :: q, .app _ ts => 1 ≤ k ∧ ∃ t, ts[(k - 1).toNat]? = some t ∧ IsPos q t
  | _ :: _, .var _ => False
def rep (u : Tm) : List Int → Tm → Tm
  | [], _ => u
  | k :: q, .app f ts => .app f (ts.set (k - 1).toNat (rep u q (ts.getD (k - 1).toNat u)))
  | _ :: _, .var n => .var n
/-- the subterm at q -/
def at? : List Int → Tm → Option Tm
  | [], t => some t
  | k :: q, .app _ ts => if 1 ≤ k then (ts[(k - 1).toNat]?).bind (at? q) else none
  | _ :: _, .var _ => none
mutual
theorem poss_is : ∀ (t : Tm) (q : List Int), q ∈ poss t → IsPos q t ∧ q.length < t.dep
  | .var n, q, h => by
    rw [List.mem_singleton.mp (show q ∈ [[]] from h)]
    exact ⟨trivial, Nat.one_pos⟩
  | .app f ts, q, h => by
    rcases List.mem_cons.mp (show q ∈ [] :: posss 1 ts from h) with e | h
    · rw [e]; exact ⟨trivial, Tm.dep_pos (.app f ts)⟩
    · obtain ⟨j, t, r, rfl, ht, h1, h2⟩ := posss_is 1 ts q h
      have hm := Tm.dep_of_mem (List.mem_of_getElem? ht)
      refine ⟨⟨by omega, t, ?_, h1⟩, ?_⟩
      · have : (((1 + j : Nat) : Int) - 1).toNat = j := by omega
        rw [this]; exact ht
      · show r.length + 1 < 1 + Tm.deps ts
        omega
theorem posss_is : ∀ (k : Nat) (ts : List Tm) (q : List Int), q ∈ posss k ts → ∃ (j : Nat) (t : Tm) (r : List Int), q = ((k + j : Nat) : Int) :: r ∧ ts[j]? = some t ∧ IsPos r t ∧ r.length < t.dep
  | _, [], _, h => nomatch h
  | k, t :: ts, q, h => by
    rcases List.mem_append.mp (show q ∈ (poss t).map (fun q => (k : Int) :: q) ++ posss (k + 1) ts from h) with h | h
    · obtain ⟨r, hr, rfl⟩ := List.mem_map.mp h
      have := poss_is t r hr
      exact ⟨0, t, r, rfl, rfl, this.1, this.2⟩
    · obtain ⟨j, u, r, rfl, hu, h1, h2⟩ := posss_is (k + 1) ts q h
      exact ⟨j + 1, u, r, by rw [show k + 1 + j = k + (j + 1) by omega], by rw [List.getElem?_cons_succ]; exact hu, h1, h2⟩
end
mutual
theorem poss_len : ∀ t : Tm, (poss t).length = t.sz
  | .var _ => rfl
  | .app f ts => by show (posss 1 ts).length + 1 = 1 + Tm.szs ts; rw [posss_len 1 ts]; omega
theorem posss_len : ∀ (k : Nat) (ts : List Tm), (posss k ts).length = Tm.szs ts
  | _, [] => rfl
  | k, t :: ts => by
    show ((poss t).map (fun q => (k : Int) :: q) ++ posss (k + 1) ts).length = t.sz + Tm.szs ts
    rw [List.length_append, List.length_map, poss_len t, posss_len (k + 1) ts]
end
theorem posss_app : ∀ (a b : List Tm) (k : Nat), posss k (a ++ b) = posss k a ++ posss (k + a.length) b
  | [], _, _ => rfl
  | t :: ts, b, k => by
    show (poss t).map (fun q => (k : Int) :: q) ++ posss (k + 1) (ts ++ b) = ((poss t).map (fun q => (k : Int) :: q) ++ posss (k + 1) ts) ++ posss (k + (ts.length + 1)) b
    rw [posss_app ts b, List.append_assoc, show k + 1 + ts.length = k + (ts.length + 1) by omega]
/-- a list of tuples of ints -/
def PosIn (H : Hp) (p : Addr) (ps : List (List Int)) : Prop := ∃ as : List Addr, H p = some (.lst (as.map V.ref)) ∧ as.length = ps.length ∧ ∀ (k : Nat) (a : Addr) (q : List Int), as[k]? = some a → ps[k]? = some q → H a = some (.tup (q.map V.int))
theorem PosIn.get {H : Hp} {p : Addr} {ps : List (List Int)} (h : PosIn H p ps) {k : Nat} (hk : k < ps.length) : ∃ (xs : List V) (a : Addr) (q : List Int), H p = some (.lst xs) ∧ xs.length = ps.length ∧ xs[k]? = some (.ref a) ∧ ps[k]? = some q ∧ H a = some (.tup (q.map V.int)) := by
  obtain ⟨as, h1, h2, h3⟩ := h
  have hk' : k < as.length := by omega
  exact ⟨_, as[k], ps[k], h1, by rw [List.length_map, h2], by rw [List.getElem?_map, List.getElem?_eq_getElem hk']; rfl, List.getElem?_eq_getElem hk, h3 k _ _ (List.getElem?_eq_getElem hk') (List.getElem?_eq_getElem hk)⟩
theorem PosIn.mono {H H' : Hp} {p : Addr} {ps : List (List Int)} (h : PosIn H p ps) (t : Tu H H') (e : ∀ xs, H p = some (.lst xs) → H' p = some (.lst xs)) : PosIn H' p ps := by
  obtain ⟨as, h1, h2, h3⟩ := h
  exact ⟨as, e _ h1, h2, fun k a q ea eq => t _ _ (h3 k a q ea eq)⟩
theorem PosIn.same {H H' : Hp} {p : Addr} {ps : List (List Int)} (h : PosIn H p ps) (s : Same H H') : PosIn H' p ps := h.mono (tu_same s) fun _ e => s _ _ e
theorem PosIn.push {H H' : Hp} {p a : Addr} {ps : List (List Int)} {q : List Int} {as : List Addr} (h1 : H p = some (.lst (as.map V.ref))) (h2 : as.length = ps.length) (h3 : ∀ (k : Nat) (a : Addr) (q : List Int), as[k]? = some a → ps[k]? = some q → H a = some (.tup (q.map V.int)))
    (t : Tu H H') (e : H' p = some (.lst (as.map V.ref ++ [.ref a]))) (ha : H' a = some (.tup (q.map V.int))) : PosIn H' p (ps ++ [q]) := by
  refine ⟨as ++ [a], by rw [e, List.map_append]; rfl, by rw [List.length_append, List.length_append, h2]; rfl, fun k b r eb er => ?_⟩
  by_cases hk : k < as.length
  · rw [List.getElem?_append_left hk] at eb
    rw [List.getElem?_append_left (by omega)] at er
    exact t _ _ (h3 k b r eb er)
  · have h4 := (List.getElem?_eq_some_iff.mp eb).1
    rw [List.length_append, List.length_singleton] at h4
    have ek : k = as.length := by omega
    subst ek
    rw [List.getElem?_append_right (Nat.le_refl _), Nat.sub_self] at eb
    rw [List.getElem?_append_right (by omega), h2, Nat.sub_self] at er
    cases eb; cases er
    exact ha
theorem cutLo (vs : List V) (k : Nat) : cutV vs none (some (k : Int)) = vs.take k := by
  unfold cutV
  have e1 : HT.sIx vs.length 0 none = 0 := rfl
  rw [e1, HT.sIx_nat, List.drop_zero, Nat.sub_zero]
  by_cases h : k ≤ vs.length
  · rw [Nat.min_eq_left h]
  · rw [Nat.min_eq_right (by omega), List.take_of_length_le (Nat.le_refl _), List.take_of_length_le (by omega)]
theorem cutHi (vs : List V) (k : Nat) : cutV vs (some (k : Int)) none = vs.drop k := by
  unfold cutV
  have e1 : HT.sIx vs.length vs.length none = vs.length := rfl
  rw [e1, HT.sIx_nat]
  by_cases h : k ≤ vs.length
  · rw [Nat.min_eq_left h, List.take_of_length_le (by rw [List.length_drop]; exact Nat.le_refl _)]
  · rw [Nat.min_eq_right (by omega), List.drop_of_length_le (Nat.le_refl _), List.drop_of_length_le (by omega), List.take_nil]
theorem notLo {vs : List V} {k : Nat} (h : k < vs.length) : ¬ (HT.sIx vs.length 0 none = 0 ∧ HT.sIx vs.length vs.length (some (k : Int)) = vs.length) := fun z => by
  rw [HT.sIx_nat] at z
  have := z.2
  omega
theorem notHi {vs : List V} {k : Nat} (h : 1 ≤ k) (hv : 1 ≤ vs.length) : ¬ (HT.sIx vs.length 0 (some (k : Int)) = 0 ∧ HT.sIx vs.length vs.length none = vs.length) := fun z => by
  rw [HT.sIx_nat] at z
  have := z.1
  omega
theorem TmsIn.take {H : Hp} : ∀ {ts : List Tm} {vs : List V} (k : Nat), TmsIn H ts vs → TmsIn H (ts.take k) (vs.take k)
  | [], _, k, h => by cases (show _ = [] from h); cases k <;> rfl
  | _ :: _, _, 0, _ => rfl
  | t :: ts, _, k + 1, ⟨v, r, rfl, h, q⟩ => ⟨v, r.take k, rfl, h, TmsIn.take k q⟩
theorem TmsIn.drop {H : Hp} : ∀ {ts : List Tm} {vs : List V} (k : Nat), TmsIn H ts vs → TmsIn H (ts.drop k) (vs.drop k)
  | [], _, k, h => by cases (show _ = [] from h); cases k <;> rfl
  | _ :: _, _, 0, h => h
  | t :: ts, _, k + 1, ⟨v, r, rfl, h, q⟩ => TmsIn.drop k q
theorem set_cut {α : Type} {l : List α} {k : Nat} {x : α} (h : k < l.length) : l.set k x = l.take k ++ [x] ++ l.drop (k + 1) := by
  rw [List.set_eq_take_append_cons_drop, if_pos h, List.append_assoc]; rfl
/-- sizes and depths behind a replacement -/
theorem rep_dep (u : Tm) : ∀ (q : List Int) (t : Tm), IsPos q t → (rep u q t).dep ≤ max t.dep (q.length + u.dep) ∧ (rep u q t).sz ≤ t.sz + u.sz
  | [], t, _ => ⟨by show u.dep ≤ _; have := t.dep_pos; simp; omega, by show u.sz ≤ _; omega⟩
  | k :: q, .var n, h => h.elim
  | k :: q, .app f ts, ⟨h1, t, ht, hp⟩ => by
    have ih := rep_dep u q t hp
    have e : ts.getD (k - 1).toNat u = t := by rw [List.getD_eq_getElem?_getD, ht]; rfl
    have hk : (k - 1).toNat < ts.length := (List.getElem?_eq_some_iff.mp ht).1
    have hd : ∀ (l : List Tm) (j : Nat) (x : Tm) (M : Nat), Tm.deps l ≤ M → x.dep ≤ M → Tm.deps (l.set j x) ≤ M := by
      intro l
      induction l with
      | nil => intro j x M h _; exact h
      | cons a r ih =>
        intro j x M h hx
        have h : max a.dep (Tm.deps r) ≤ M := h
        cases j with
        | zero => show max x.dep (Tm.deps r) ≤ M; omega
        | succ j => show max a.dep (Tm.deps (r.set j x)) ≤ M; have := ih j x M (by omega) hx; omega
    have hs : ∀ (l : List Tm) (j : Nat) (x y : Tm), l[j]? = some y → Tm.szs (l.set j x) + y.sz = Tm.szs l + x.sz := by
      intro l
      induction l with
      | nil => intro j x y h; simp at h
      | cons a r ih =>
        intro j x y h
        cases j with
        | zero =>
          have h : a = y := by simpa using h
          subst h
          show x.sz + Tm.szs r + a.sz = a.sz + Tm.szs r + x.sz
          omega
        | succ j =>
          have := ih j x y (by simpa using h)
          show a.sz + Tm.szs (r.set j x) + y.sz = a.sz + Tm.szs r + x.sz
          omega
    have hm := Tm.dep_of_mem (List.mem_of_getElem? ht)
    refine ⟨?_, ?_⟩
    · show 1 + Tm.deps (ts.set (k - 1).toNat (rep u q (ts.getD (k - 1).toNat u))) ≤ max (1 + Tm.deps ts) (q.length + 1 + u.dep)
      rw [e]
      have := hd ts (k - 1).toNat (rep u q t) (max (Tm.deps ts) (q.length + u.dep)) (by omega) (by omega)
      omega
    · show 1 + Tm.szs (ts.set (k - 1).toNat (rep u q (ts.getD (k - 1).toNat u))) ≤ 1 + Tm.szs ts + u.sz
      rw [e]
      have := hs ts (k - 1).toNat (rep u q t) t ht
      omega
theorem at_cons_app {k : Int} {q : List Int} {f : Str} {ts : List Tm} : at? (k :: q) (.app f ts) = if 1 ≤ k then (ts[(k - 1).toNat]?).bind (at? q) else none := rfl
theorem at_app : ∀ (a b : List Int) (t : Tm), at? (a ++ b) t = (at? a t).bind (at? b)
  | [], _, _ => rfl
  | k :: a, b, .var _ => rfl
  | k :: a, b, .app f ts => by
    show at? (k :: (a ++ b)) (.app f ts) = _
    rw [at_cons_app, at_cons_app]
    by_cases h : 1 ≤ k
    · rw [if_pos h, if_pos h]
      cases ts[(k - 1).toNat]? with
      | none => rfl
      | some t => exact at_app a b t
    · rw [if_neg h, if_neg h]; rfl
theorem isPos_at : ∀ (q : List Int) (t : Tm), IsPos q t ↔ ∃ u, at? q t = some u
  | [], t => ⟨fun _ => ⟨t, rfl⟩, fun _ => trivial⟩
  | k :: q, .var _ => ⟨fun h => h.elim, fun ⟨_, h⟩ => nomatch h⟩
  | k :: q, .app f ts => by
    rw [at_cons_app]
    constructor
    · rintro ⟨h1, t, ht, hp⟩
      obtain ⟨u, hu⟩ := (isPos_at q t).mp hp
      exact ⟨u, by rw [if_pos h1, ht]; exact hu⟩
    · rintro ⟨u, hu⟩
      by_cases h : 1 ≤ k
      · rw [if_pos h] at hu
        cases e : ts[(k - 1).toNat]? with
        | none => rw [e] at hu; cases hu
        | some t => rw [e] at hu; exact ⟨h, t, e, (isPos_at q t).mpr ⟨u, hu⟩⟩
      · rw [if_neg h] at hu; cases hu
theorem isPos_app (a b : List Int) (t : Tm) : IsPos (a ++ b) t ↔ ∃ u, at? a t = some u ∧ IsPos b u := by
  rw [isPos_at, at_app]
  constructor
  · rintro ⟨w, hw⟩
    cases e : at? a t with
    | none => rw [e] at hw; cases hw
    | some u => rw [e] at hw; exact ⟨u, rfl, (isPos_at b u).mpr ⟨w, hw⟩⟩
  · rintro ⟨u, hu, hb⟩
    rw [hu]
    exact (isPos_at b u).mp hb
theorem isPos_take {q : List Int} {t : Tm} (h : IsPos q t) (i : Nat) : ∃ u, at? (q.take i) t = some u := by
  have := (isPos_app (q.take i) (q.drop i) t).mp (by rw [List.take_append_drop]; exact h)
  obtain ⟨u, hu, _⟩ := this
  exact ⟨u, hu⟩
/-- a child -/
theorem isPos_one {k : Int} {t : Tm} : IsPos [k] t ↔ ∃ f ts u, t = .app f ts ∧ 1 ≤ k ∧ ts[(k - 1).toNat]? = some u := by
  cases t with
  | var n => exact ⟨fun h => h.elim, fun ⟨_, _, _, h, _⟩ => nomatch h⟩
  | app f ts => exact ⟨fun ⟨h1, u, hu, _⟩ => ⟨f, ts, u, rfl, h1, hu⟩, fun ⟨_, _, u, e, h1, hu⟩ => by cases e; exact ⟨h1, u, hu, trivial⟩⟩
theorem at_step {q : List Int} {t w : Tm} {i : Nat} {k : Int} (hk : q[i]? = some k) (hw : at? (q.take i) t = some w) : at? (q.take (i + 1)) t = at? [k] w := by
  rw [list_take_succ hk, at_app, hw]; rfl
/-- put in, and take out -/
theorem at_rep (u : Tm) : ∀ (q : List Int) (t : Tm), IsPos q t → at? q (rep u q t) = some u
  | [], _, _ => rfl
  | k :: q, .var _, h => h.elim
  | k :: q, .app f ts, ⟨h1, t, ht, hp⟩ => by
    have hk := (List.getElem?_eq_some_iff.mp ht).1
    have e : ts.getD (k - 1).toNat u = t := by rw [List.getD_eq_getElem?_getD, ht]; rfl
    show at? (k :: q) (.app f (ts.set (k - 1).toNat (rep u q (ts.getD (k - 1).toNat u)))) = _
    rw [at_cons_app, if_pos h1, List.getElem?_set_self hk, e]
    exact at_rep u q t hp
theorem isPos_rep {u : Tm} {q : List Int} {t : Tm} (h : IsPos q t) : IsPos q (rep u q t) := (isPos_at q _).mpr ⟨u, at_rep u q t h⟩
theorem rep_back (u s : Tm) : ∀ (q : List Int) (t : Tm), at? q t = some s → rep s q (rep u q t) = t
  | [], t, h => (Option.some.inj h).symm
  | k :: q, .var _, h => nomatch h
  | k :: q, .app f ts, h => by
    rw [at_cons_app] at h
    by_cases h1 : 1 ≤ k
    · rw [if_pos h1] at h
      cases ht : ts[(k - 1).toNat]? with
      | none => rw [ht] at h; cases h
      | some t =>
        rw [ht] at h
        have hk := (List.getElem?_eq_some_iff.mp ht).1
        have e : ts.getD (k - 1).toNat u = t := by rw [List.getD_eq_getElem?_getD, ht]; rfl
        have ih := rep_back u s q t h
        show Tm.app f ((ts.set (k - 1).toNat (rep u q (ts.getD (k - 1).toNat u))).set (k - 1).toNat (rep s q ((ts.set (k - 1).toNat (rep u q (ts.getD (k - 1).toNat u))).getD (k - 1).toNat s))) = _
        have e2 : (ts.set (k - 1).toNat (rep u q (ts.getD (k - 1).toNat u))).getD (k - 1).toNat s = rep u q t := by
          rw [List.getD_eq_getElem?_getD, List.getElem?_set_self hk, e]; rfl
        rw [e2, ih, List.set_set, ← (List.getElem?_eq_some_iff.mp ht).2, List.set_getElem_self]
    · rw [if_neg h1] at h; cases h
theorem rep_step {u w c : Tm} {q : List Int} {k : Int} {i : Nat} {t : Tm} (hk : q[i]? = some k) (hw : at? (q.take i) t = some w) (hc : at? (q.take (i + 1)) t = some c) :
    ∃ f ts, w = .app f ts ∧ 1 ≤ k ∧ ts[(k - 1).toNat]? = some c ∧ rep u (q.drop i) w = .app f (ts.set (k - 1).toNat (rep u (q.drop (i + 1)) c)) := by
  rw [at_step hk hw] at hc
  obtain ⟨f, ts, c', rfl, h1, h2⟩ := isPos_one.mp ((isPos_at [k] w).mpr ⟨c, hc⟩)
  have hi := (List.getElem?_eq_some_iff.mp hk)
  rw [at_cons_app, if_pos h1, h2] at hc
  have hc : some c' = some c := hc
  cases hc
  refine ⟨f, ts, rfl, h1, h2, ?_⟩
  have e : q.drop i = k :: q.drop (i + 1) := by
    obtain ⟨hi, rfl⟩ := hi
    exact (List.drop_eq_getElem_cons hi)
  rw [e]
  show Tm.app f (ts.set (k - 1).toNat (rep u (q.drop (i + 1)) (ts.getD (k - 1).toNat u))) = _
  rw [List.getD_eq_getElem?_getD, h2]; rfl
theorem at_sz : ∀ (q : List Int) (t u : Tm), at? q t = some u → u.sz ≤ t.sz ∧ u.dep ≤ t.dep
  | [], t, u, h => by cases (show some t = some u from h); exact ⟨Nat.le_refl _, Nat.le_refl _⟩
  | k :: q, .var _, _, h => nomatch h
  | k :: q, .app f ts, u, h => by
    rw [at_cons_app] at h
    by_cases h1 : 1 ≤ k
    · rw [if_pos h1] at h
      cases ht : ts[(k - 1).toNat]? with
      | none => rw [ht] at h; cases h
      | some t =>
        rw [ht] at h
        have ih := at_sz q t u h
        have hm := List.mem_of_getElem? ht
        have h2 := Tm.dep_of_mem hm
        have h3 := Tm.sz_arg hm
        exact ⟨by show u.sz ≤ 1 + Tm.szs ts; omega, by show u.dep ≤ 1 + Tm.deps ts; omega⟩
    · rw [if_neg h1] at h; cases h
/-- pairs of a position and a term, on a stack -/
def PairIn (H : Hp) (v : V) (x : List Int × Tm) : Prop := ∃ (b c : Addr) (u : V), v = .ref b ∧ H b = some (.tup [.ref c, u]) ∧ H c = some (.tup (x.1.map V.int)) ∧ TmIn H x.2 u
def StkIn (H : Hp) (ws : List V) (S : List (List Int × Tm)) : Prop := ws.length = S.length ∧ ∀ (k : Nat) (v : V) (x : List Int × Tm), ws[k]? = some v → S[k]? = some x → PairIn H v x
theorem PairIn.tu {H H' : Hp} {v : V} {x : List Int × Tm} (h : PairIn H v x) (t : Tu H H') : PairIn H' v x := by
  obtain ⟨b, c, u, rfl, h1, h2, h3⟩ := h
  exact ⟨b, c, u, rfl, t _ _ h1, t _ _ h2, h3.tu t⟩
theorem StkIn.tu {H H' : Hp} {ws : List V} {S : List (List Int × Tm)} (h : StkIn H ws S) (t : Tu H H') : StkIn H' ws S := ⟨h.1, fun k v x e1 e2 => (h.2 k v x e1 e2).tu t⟩
theorem StkIn.snoc {H : Hp} {ws : List V} {S : List (List Int × Tm)} (h : StkIn H ws S) {v : V} {x : List Int × Tm} (hv : PairIn H v x) : StkIn H (ws ++ [v]) (S ++ [x]) := by
  refine ⟨by rw [List.length_append, List.length_append, h.1]; rfl, fun k u y e1 e2 => ?_⟩
  by_cases hk : k < ws.length
  · rw [List.getElem?_append_left hk] at e1
    rw [List.getElem?_append_left (by have := h.1; omega)] at e2
    exact h.2 k u y e1 e2
  · have h4 := (List.getElem?_eq_some_iff.mp e1).1
    rw [List.length_append, List.length_singleton] at h4
    have ek : k = ws.length := by omega
    subst ek
    rw [List.getElem?_append_right (Nat.le_refl _), Nat.sub_self] at e1
    rw [List.getElem?_append_right (by have := h.1; omega), h.1, Nat.sub_self] at e2
    cases e1; cases e2
    exact hv
theorem StkIn.pop {H : Hp} {ws : List V} {S : List (List Int × Tm)} (h : StkIn H ws S) (n : ws ≠ []) : ∃ v S' x, ws[ws.length - 1]? = some v ∧ S = S' ++ [x] ∧ PairIn H v x ∧ StkIn H ws.dropLast S' := by
  have l := h.1
  have hw : 0 < ws.length := List.length_pos_iff.mpr n
  have hS : S ≠ [] := fun z => by rw [z] at l; simp at l; exact n l
  obtain ⟨S', x, rfl⟩ : ∃ S' x, S = S' ++ [x] := ⟨S.dropLast, S.getLast hS, (List.dropLast_concat_getLast hS).symm⟩
  rw [List.length_append, List.length_singleton] at l
  have hl : ws.length - 1 < ws.length := by omega
  have e1 := List.getElem?_eq_getElem hl
  refine ⟨_, S', x, e1, rfl, h.2 _ _ x e1 (by rw [List.getElem?_append_right (by omega), show ws.length - 1 - S'.length = 0 by omega]; rfl), by rw [List.length_dropLast]; omega, fun k v y g1 g2 => ?_⟩
  rw [List.getElem?_dropLast] at g1
  by_cases hk : k < ws.length - 1
  · rw [if_pos hk] at g1
    exact h.2 k v y g1 (by rw [List.getElem?_append_left (by omega)]; exact g2)
  · rw [if_neg hk] at g1; cases g1
def posOf : List (List Int × Tm) → List (List Int)
  | [] => []
  | x :: r => (poss x.2).map (fun z => x.1 ++ z) ++ posOf r
def kids (q : List Int) : Nat → List Tm → List (List Int × Tm)
  | _, [] => []
  | k, t :: ts => (q ++ [(k : Int)], t) :: kids q (k + 1) ts
def szOf (S : List (List Int × Tm)) : Nat := (S.map fun x => x.2.sz).sum
theorem posOf_app (a b : List (List Int × Tm)) : posOf (a ++ b) = posOf a ++ posOf b := by
  induction a with
  | nil => rfl
  | cons x a ih => show (poss x.2).map (fun z => x.1 ++ z) ++ posOf (a ++ b) = _; rw [ih, ← List.append_assoc]; rfl
theorem posOf_len (a : List (List Int × Tm)) : (posOf a).length = szOf a := by
  induction a with
  | nil => rfl
  | cons x a ih => show ((poss x.2).map (fun z => x.1 ++ z) ++ posOf a).length = x.2.sz + szOf a; rw [List.length_append, List.length_map, poss_len, ih]
theorem szOf_app (a b : List (List Int × Tm)) : szOf (a ++ b) = szOf a + szOf b := by unfold szOf; rw [List.map_append, List.sum_append]
theorem szOf_rev (a : List (List Int × Tm)) : szOf a.reverse = szOf a := by
  induction a with
  | nil => rfl
  | cons x a ih =>
    rw [List.reverse_cons, szOf_app, ih]
    show szOf a + (x.2.sz + 0) = x.2.sz + szOf a
    omega
theorem len_szOf (a : List (List Int × Tm)) : a.length ≤ szOf a := by
  induction a with
  | nil => exact Nat.le_refl _
  | cons x a ih => have := x.2.sz_pos; show a.length + 1 ≤ x.2.sz + szOf a; omega
theorem posOf_kids (q : List Int) : ∀ (ts : List Tm) (k : Nat), posOf (kids q k ts) = (posss k ts).map (fun z => q ++ z)
  | [], _ => rfl
  | t :: ts, k => by
    show (poss t).map (fun z => (q ++ [(k : Int)]) ++ z) ++ posOf (kids q (k + 1) ts) = ((poss t).map (fun z => (k : Int) :: z) ++ posss (k + 1) ts).map (fun z => q ++ z)
    rw [posOf_kids q ts, List.map_append, List.map_map]
    congr 1
    refine List.map_congr_left fun z _ => ?_
    show (q ++ [(k : Int)]) ++ z = q ++ ((k : Int) :: z)
    rw [List.append_assoc]; rfl
theorem kids_len (q : List Int) : ∀ (ts : List Tm) (k : Nat), (kids q k ts).length = ts.length
  | [], _ => rfl
  | _ :: ts, k => congrArg (· + 1) (kids_len q ts (k + 1))
theorem kids_get (q : List Int) : ∀ (ts : List Tm) (k i : Nat) (t : Tm), ts[i]? = some t → (kids q k ts)[i]? = some (q ++ [((k + i : Nat) : Int)], t)
  | [], _, _, _, h => by simp at h
  | _ :: _, k, 0, _, h => by cases h; rfl
  | _ :: ts, k, i + 1, t, h => by
    have := kids_get q ts (k + 1) i t h
    rw [show k + 1 + i = k + (i + 1) by omega] at this
    exact this
theorem kids_sz (q : List Int) : ∀ (ts : List Tm) (k : Nat), szOf (kids q k ts) = Tm.szs ts
  | [], _ => rfl
  | t :: ts, k => by show t.sz + szOf (kids q (k + 1) ts) = t.sz + Tm.szs ts; rw [kids_sz q ts]
theorem rep_wf {fs : List Str} {B : Int} {u : Tm} (wu : u.wf fs B) : ∀ (q : List Int) (t : Tm), t.wf fs B → IsPos q t → (rep u q t).wf fs B
  | [], _, _, _ => wu
  | _ :: _, .var _, _, h => h.elim
  | k :: q, .app f ts, w, ⟨h1, t, ht, hp⟩ => by
    obtain ⟨⟨i, i1, i2⟩, w⟩ := (show (∃ k, fs[k]? = some f ∧ ts.length = ar k) ∧ Tm.wfs fs B ts from w)
    have e : ts.getD (k - 1).toNat u = t := by rw [List.getD_eq_getElem?_getD, ht]; rfl
    have ih := rep_wf wu q t (Tm.wf_of_mem w (List.mem_of_getElem? ht)) hp
    show (∃ k', fs[k']? = some f ∧ (ts.set (k - 1).toNat (rep u q (ts.getD (k - 1).toNat u))).length = ar k') ∧ Tm.wfs fs B (ts.set (k - 1).toNat (rep u q (ts.getD (k - 1).toNat u)))
    rw [e]
    refine ⟨⟨i, i1, by rw [List.length_set]; exact i2⟩, Tm.wfs_of fun x hx => ?_⟩
    rcases List.mem_or_eq_of_mem_set hx with h | h
    · exact Tm.wf_of_mem w h
    · rw [h]; exact ih
end J

/-! ### rules of our own: a list extended by a tuple, t[:0:-1] -/
namespace J
open PySem L2 PyProof.Rows
section
open PySem PySem.Builtin
theorem ext_tup (l : Addr) (xs : Array Value) (n : Nat) (b : Addr) (ys : Array Value) (m : Nat) (d : Option Addr) (sl : Array (Option Value))
    (h0 : ¬(!xs.isEmpty && Builtin.List.listTooLong (xs.size + ys.size)) = true) (h1 : xs.size ≤ sizeLine) (h2 : xs.size + ys.size ≤ sizeLine + 1) :
    Meets (Builtin.«list.extend» ⟨[.ref l, .ref b], []⟩) (fun _ R s => s.heap.get? l = some ⟨.type "list", none, .seq xs n, #[]⟩ ∧ s.heap.get? b = some ⟨.type "tuple", d, .seq ys m, sl⟩ ∧
      R (.ok (.ret Value.none)) { s with heap := s.heap.update l (Obj.mapSeq fun x => x ++ ys), toks := s.toks }) := by
  refine .of_wp fun prog w A R s h => ?_
  obtain ⟨hp, g, dd, tk, os⟩ := s
  obtain ⟨hl, hb, h⟩ := h
  have f1 := AutoSeq1.idx_int
  have f2 := AutoSeq1.sub_tuple_tuple
  have f4 := AutoSeq1.sub_tuple_list
  have f5 := AutoSeq1.sub_list_tuple
  have f3 := AutoSeq1.sub_list_list
  have hz' : (xs ++ ys).size ≤ sizeLine + 1 := by rw [Array.size_append]; exact h2
  wp_walk using (wpAny_updateSeq hl rfl (hz := h1) (_hz' := hz')), AutoSeq1.wpAny_loadPart' hl, AutoSeq1.wpAny_loadPart' hb
  exact ⟨_, rfl, h⟩
end
def rExtT (K : PySem.W.Frag) : V → List V → Hp → VK → Prop := fun x vs H Q => ∃ l b xs zs, x = .ref l ∧ vs = [.ref b] ∧ H l = some (.lst xs) ∧ SqT K H b zs ∧ xs.length + zs.length ≤ sizeLine ∧ Q .non (upd H l (.lst (xs ++ zs)))
section
variable {X : Cx}
theorem mt_extT : MtM X "list.extend" (rExtT X.K) := by
  intro pins s σ H x vs v us Q I rx rv h
  obtain ⟨l, b, xs, zs, rfl, rfl, hH, hB, hz, q⟩ := h
  cases rx
  obtain ⟨u, rfl, ru⟩ := rv.one
  cases ru
  obtain ⟨_, its, n, r, hl, e⟩ := I.lstM hH
  obtain ⟨its2, r2, ⟨o, ho, hc, m, hd⟩, _⟩ := I.tuple hB
  have hl2 := r2.length
  obtain ⟨oc, od, oda, osl⟩ := o
  cases hc
  cases hd
  have sz : its.toArray.size + its2.toArray.size ≤ sizeLine := by rw [List.size_toArray, List.size_toArray, ← hl, ← hl2]; exact hz
  have door : ¬ (!its.toArray.isEmpty && Builtin.List.listTooLong (its.toArray.size + its2.toArray.size)) = true := by
    rw [notLongL sz, Bool.and_false]; exact Bool.false_ne_true
  refine call_meets F.slot_list_extend ⟨_, e, rfl⟩ F.entry_list_extend (F.args_list_extend_2 _ _) (ext_tup l its.toArray n b its2.toArray m od osl door (by omega) (by omega)) ⟨e, ho, ?_⟩
  refine ⟨.non, _, I.lset (its' := its ++ its2) hH e (by simp) (r.append r2) ?_, rfl, q⟩
  rw [List.length_append]; exact hz
end

/-! t[:0:-1] -/
theorem adj_rev (n : Nat) : Builtin.Slice.sliceAdjust none (some 0) (-1) ((n + 1 : Nat) : Int) = ((n : Int), 0) := by
  unfold Builtin.Slice.sliceAdjust
  simp only [show ((-1 : Int) < 0) = True from eq_true (by decide), if_true]
  have e1 : ¬ ((0 : Int) < 0) := by decide
  rw [if_neg e1]
  refine Prod.ext ?_ ?_
  · show ((n + 1 : Nat) : Int) - 1 = n
    omega
  · show min (0 : Int) (((n + 1 : Nat) : Int) - 1) = 0
    omega
theorem places_rev (n : Nat) : Builtin.Slice.slicePlaces (n : Int) 0 (-1) = n := by
  unfold Builtin.Slice.slicePlaces
  rw [if_neg (by decide : ¬ ((-1 : Int) > 0))]
  by_cases h : (n : Int) > 0
  · rw [if_pos h, show (- -1 : Int) = 1 by decide, Int.ediv_one]
    omega
  · rw [if_neg h]; omega
section
variable {prog : Program} {w : World} {A : Around} {E : Value → Shared → Prop} {s : Shared}
theorem applied_rev {sl : Addr} {vu vs : Value} {n : Nat} {Q : Int × Int × Nat → Shared → Prop} (hs : s.heap.IsSliceOf sl .none vu vs) (pu : IsPart vu (some 0)) (ps : IsPart vs (some (-1)))
    (h : Q ((n : Int), -1, n) s) : wpAny (model prog w) A (Builtin.Slice.sliceApplied (.ref sl) (pure ((n + 1 : Nat) : Int))) Q E s := by
  obtain ⟨os, hos, hcs, hds⟩ := id hs
  unfold Builtin.Slice.sliceApplied Builtin.Slice.sliceFields
  refine wpAny_bind (wpAny_bind (wpAny_field hos hds (x := .none) rfl (wpAny_bind (wpAny_field hos hds (x := vu) rfl (wpAny_bind (wpAny_field hos hds (x := vs) rfl (wpAny_pure ?_)))))))
  refine wpAny_bind (HT.slicePart_ ps ?_)
  show wpAny _ _ (if ((-1 : Int) == 0) = true then _ else _) _ _ s
  rw [if_neg (by decide)]
  refine wpAny_bind (slicePart_none (wpAny_bind (HT.slicePart_ pu (wpAny_bind (wpAny_pure ?_)))))
  show wpAny _ _ (match Builtin.Slice.sliceAdjust none (some 0) (-1) ((n + 1 : Nat) : Int) with | (lo, hi) => pure (lo, (-1 : Int), Builtin.Slice.slicePlaces lo hi (-1))) _ _ s
  rw [adj_rev]
  show wpAny _ _ (pure ((n : Int), (-1 : Int), Builtin.Slice.slicePlaces (n : Int) 0 (-1))) _ _ s
  rw [places_rev]
  exact wpAny_pure h
theorem fm_congr {α β : Type} {f g : α → Option β} : ∀ {l : List α}, (∀ k ∈ l, f k = g k) → l.filterMap f = l.filterMap g
  | [], _ => rfl
  | a :: l, h => by
    rw [List.filterMap_cons, List.filterMap_cons, h a (List.mem_cons_self ..), fm_congr fun k hk => h k (List.mem_cons_of_mem _ hk)]
theorem pick_rev (x : Value) (xs : List Value) : ((List.range xs.length).filterMap fun (k : Nat) => (x :: xs).toArray[((xs.length : Int) + (k : Int) * -1).toNat]?) = xs.reverse := by
  have e : ∀ (l : List Nat), (∀ k ∈ l, k < xs.length) → (l.filterMap fun (k : Nat) => (x :: xs).toArray[((xs.length : Int) + (k : Int) * -1).toNat]?) = l.filterMap fun k => xs[xs.length - 1 - k]? := by
    intro l hl
    refine fm_congr fun k hk => ?_
    have h1 := hl k hk
    have e1 : ((xs.length : Int) + (k : Int) * -1).toNat = (xs.length - 1 - k) + 1 := by omega
    rw [e1]
    show ((x :: xs).toArray[(xs.length - 1 - k) + 1]?) = _
    rw [List.getElem?_toArray, List.getElem?_cons_succ]
  rw [e _ fun k hk => List.mem_range.mp hk]
  have e2 : ∀ (l : List Nat), (∀ k ∈ l, k < xs.length) → (l.filterMap fun k => xs[xs.length - 1 - k]?) = l.filterMap fun k => xs.reverse[k]? := by
    intro l hl
    refine fm_congr fun k hk => ?_
    rw [List.getElem?_reverse (hl k hk)]
  rw [e2 _ fun k hk => List.mem_range.mp hk]
  have e3 : ∀ (ys : List Value), ((List.range ys.length).filterMap fun k => ys[k]?) = ys := by
    intro ys
    have := PySem.W.krv_all ys.toArray
    simpa using this
  have := e3 xs.reverse
  rwa [List.length_reverse] at this
theorem item_rev {t sl : Addr} {x : Value} {xs : List Value} {vu vs : Value} {Q : Value → Shared → Prop} (ht : IsTup s.heap t (x :: xs).toArray) (hs : s.heap.IsSliceOf sl .none vu vs) (pu : IsPart vu (some 0)) (ps : IsPart vs (some (-1)))
    (h : Q (.ref s.heap.objs.size) { s with heap := s.heap.push { cls := .type "tuple", data := .seq xs.reverse.toArray } }) (hsz : xs.length ≤ sizeLine) : wpAny (model prog w) A (getItem (.ref t) (.ref sl)) Q E s := by
  have htake : sizeOk (.seq xs.reverse.toArray) := by
    show xs.reverse.toArray.size ≤ sizeLine
    rw [List.size_toArray, List.length_reverse]; exact hsz
  obtain ⟨os, hos, hcs, hds⟩ := id hs
  have hTs : s.TypeIs (.ref sl) "slice" := ⟨os, hos, hcs⟩
  unfold getItem
  try with_reducible refine wpAny_holding ?_
  first | refine wpAny_bind (wpAny_pure ?_) | skip
  refine wpAny_bind (wpAny_sequenceKey ht.typeIs (by decide) ?_)
  refine wpAny_bind (wpAny_callSpecial?_slot (name := Str.ofString "__getitem__") ht.typeIs PyProof.Rows.slot_tuple_getitem
    (wpAny_call_entry PyProof.Rows.slot_tuple_getitem ht.typeIs entry_tuple_getitem ?_ (args_tuple_getitem _ _)))
  show wpAny _ _ (Builtin.Tuple.tupleItemsOf (.ref t) >>= _) _ _ s
  refine wpAny_bind (PyProof.Rows.tupleItemsOf_ ht ?_)
  refine wpAny_bind (wpAny_typeOf hTs ?_)
  rw [if_pos (by decide)]
  have e0 : (x :: xs).toArray.size = xs.length + 1 := by rw [List.size_toArray]; rfl
  rw [e0]
  refine wpAny_bind (applied_rev (n := xs.length) hs pu ps ?_)
  have hno : ¬ (((xs.length : Int) == 0 && ((-1 : Int) == 1) && (xs.length == xs.length + 1)) = true) := by
    intro q
    rw [Bool.and_eq_true, Bool.and_eq_true] at q
    exact absurd q.1.2 (by decide)
  show wpAny _ _ (if ((xs.length : Int) == 0 && ((-1 : Int) == 1) && (xs.length == xs.length + 1)) = true then _ else _) _ _ s
  rw [if_neg hno, pick_rev]
  first
    | exact wpAny_bind (m := Builtin.Tuple.tupleExact _) (wpAny_newObj_type (wpAny_pure ⟨_, rfl, wpAny_pure h⟩) htake)
    | exact wpAny_bind (m := Builtin.Tuple.tupleExact _) (wpAny_newObj_type (wpAny_bind (wpAny_pure (wpAny_pure ⟨_, rfl, wpAny_pure h⟩))) htake)
    | exact wpAny_bind (wpAny_bind (m := Builtin.Tuple.tupleExact _) (wpAny_newObj_type (wpAny_pure (wpAny_pure ⟨_, rfl, wpAny_pure h⟩)) htake))
    | exact wpAny_bind (wpAny_bind (m := Builtin.Tuple.tupleExact _) (wpAny_newObj_type (wpAny_pure ⟨_, rfl, wpAny_pure h⟩) htake))
end
def tRevT (K : PySem.W.Frag) (te : TE) : TE := fun σ H Q => te σ H fun x H1 => ∃ a y ys, x = .ref a ∧ SqT K H1 a (y :: ys) ∧ ∀ p, H1 p = none → Q (.ref p) (upd H1 p (.tup ys.reverse))
theorem pe_revT {X : Cx} {e : Expr} {te : TE} {k k0 : Nat} {p0 p1 p2 p3 pos : Pos} (he : PE X e te) : PE X (.Subscript e (.Slice none (some (.Constant (.int 0) k0 p0)) (some (.UnaryOp .USub (.Constant (.int 1) k p1) p2)) p3) pos) (tRevT X.K te) := by
  refine ⟨fun pins s σ H Q I h => ?_⟩
  refine Subscript_ (thn (he.run pins s σ H _ I h) fun v s1 ⟨x, H1, I1, r1, q1⟩ => ?_)
  obtain ⟨a, y, ys, ex, hx, q⟩ := q1
  subst ex
  cases r1
  have hst : PO X (some (.UnaryOp .USub (.Constant (.int 1) k p1) p2)) (tPart (tUn (rU fun i => .int (-i)) (tC (.int 1)))) := po_some (pe_un un_neg pe_int)
  have hup : PO X (some (.Constant (.int 0) k0 p0)) (tPart (tC (.int 0))) := po_some pe_int
  rw [show (Expr.Slice none (some (.Constant (.int 0) k0 p0)) (some (.UnaryOp .USub (.Constant (.int 1) k p1) p2)) p3) = Expr.Slice none (some (.Constant (.int 0) k0 p0)) (some (.UnaryOp .USub (.Constant (.int 1) k p1) p2)) p3 from rfl]
  refine wpAny_Slice (thn (po_none.run pins s1 σ H1 (fun o H2 => o = none ∧ H2 = H1) I1 ⟨rfl, rfl⟩) fun vl s2 ⟨l, H2, I2, pl, el, e2⟩ => ?_)
  subst el e2
  refine thn (hup.run pins s2 σ H2 (fun o H3 => o = some 0 ∧ H3 = H2) I2 ⟨0, rfl, rfl, rfl⟩) fun vu s3 ⟨u, H3, I3, pu, eu, e3⟩ => ?_
  subst eu e3
  refine thn (hst.run pins s3 σ H3 (fun o H4 => o = some (-1) ∧ H4 = H3) I3 ⟨1, rfl, -1, rfl, rfl, rfl⟩) fun vs s4 ⟨o, H4, I4, ps, eo, e4⟩ => ?_
  subst eo e4
  cases pl
  have I5 : Inv X pins σ H4 { s4 with heap := s4.heap.push { cls := .type "slice", data := .fields #[.none, vu, vs] } } := I4.kept (t' := s4.toks) fun b ob q => Heap.get?_push_of_some _ q
  obtain ⟨its, r, ht, hz⟩ := I5.tuple hx
  match its, r with
  | z :: zs, .cons rz rzs =>
  have hlen := rzs.length
  show wpAny (model X.prog X.w) X.A (subscriptTail e (.Slice none (some (.Constant (.int 0) k0 p0)) (some (.UnaryOp .USub (.Constant (.int 1) k p1) p2)) p3) (.ref a) (.ref s4.heap.objs.size)) (EP X pins σ Q) X.xe { s4 with heap := s4.heap.push { cls := .type "slice", data := .fields #[.none, vu, vs] } }
  refine tail_any (ops := [.ref a, .ref s4.heap.objs.size]) ht.typeIs PyProof.Rows.slot_tuple_getitem.lookup ?_ (by with_unfolding_all rfl)
  have hz' : ys.length ≤ sizeLine := by
    have : ys.length + 1 ≤ sizeLine := hz
    omega
  refine item_rev ht (Heap.IsSliceOf.new _ .none vu vs) pu ps ?_ (by rw [← hlen]; exact hz')
  refine ⟨.ref _, _, I5.laid (t' := s4.toks) (o := .tup ys.reverse) (fun b ob q => Heap.get?_push_of_some _ q) (Nat.le_refl _) ?_, rfl, q _ (I5.hok.fresh (Nat.le_refl _))⟩
  exact ⟨by rw [List.length_reverse]; exact hz', _, L2.Vals.reverse rzs, IsTup.new _ _⟩
end J

/-! ### repr of data; a promise that holds while no repr is under way -/
namespace J
open PySem PySem.Spec PyProof.Rows L2
section
variable {P : Program} {w : World} {K : PySem.W.Frag} {mg : Str → Option Value} {base : Heap}
/-- the promise of a def, asked for only where nothing is being shown -/
structure Quiet (P : Program) (w : World) (K : PySem.W.Frag) (mg : Str → Option Value) (base : Heap) (k : Nat) (f : Addr) (fd : FuncData) (ps : List Str) (sp : Sp) : Prop where
  len : ∀ vs H Q E, sp vs H Q E → vs.length = ps.length
  run : ∀ (A : Around) (outer : List Env) (s : Shared) (H : Hp) (args : Args) (us : List Value) (vs : List V) (Q : VK) (E : XK), A.guards = some [] → Room k A → Env0 P w K mg base A outer s H → BindsTo s fd args (ps.zip us) → Vals vs us →
    sp vs H Q E → codeAny (model P w) A (.call (.ref f) args) (CR CX0 outer P w H s Q E) s
theorem quiet_of {x qual : Str} {st : Stmt} {f : Addr} {fd : FuncData} {N ps : List Str} {k : Nat} {sp : Sp} (F : Fun K x qual st f fd) (S : FnScope N ps (defScope st)) (len : ∀ vs H Q E, sp vs H Q E → vs.length = ps.length)
    (hbody : ∀ (cdv : Value) (A : Around) (outer : List Env) (s : Shared) (H : Hp) (vs : List V) (Q : VK) (E : XK), A.guards = some [] → Room k (A.deeper (envOfC qual (defScope st) s.heap.objs.size f cdv)) → sp vs H Q E →
      ∃ t, PSs (cxOf CX0 P w K mg base N qual (defScope st) f cdv A outer s H E).nox (defBody st) t ∧ t { nx := fun _ H' => Q .non H', rt := Q } (start N vs) H) : Quiet P w K mg base (k + 1) f fd ps sp := by
  obtain ⟨oc, od, kV, doc, pm, an, cdv, ct, osl, rfl, lk, hcd⟩ := F.ex
  refine ⟨len, fun A outer s H args us vs Q E hg hr e0 hb rv hsp => ?_⟩
  obtain ⟨t, ht, hq⟩ := hbody cdv A outer s H vs Q E hg (hr.deeper _) hsp
  have KX : K.In s.heap := e0.mod.kin.keeps fun b o e => (e0.bs b o e).1
  have par : ∀ y ∈ ps.zip us, (defScope st).names.lookup y.1 = some .local ∨ ((defScope st).names.lookup y.1 = some .cell ∧ ((cellsFrom (s.heap.objs.size + 1) (defScope st).names []).lookup y.1).isSome = true) := fun y hy =>
    (S.par y.1 (List.of_mem_zip (a := y.1) (b := y.2) hy).1).imp id fun q => ⟨q, PySem.W.cellsFrom_some _ _ _ (.inl q)⟩
  refine codeAny_call_function hr.depth (KX _ _ lk) rfl S.co S.gen rfl (PySem.W.codeRec_of KX hcd) (hb _ _ _ _ (wpAny_newFunctionEnv_cells S.kind par fun env he s1 x => ?_))
  subst he
  refine ⟨(e0.mod.nolimit.keeps fun b o e => (e0.bs b o e).1).keeps x.toInCall.keep, codeAny_func ?_⟩
  refine wpAny_mono (ht.nox.run [] s1 (start N vs) H _ (inv_start S hr.hd e0 (len _ _ _ _ hsp) rv x) hq) (fun fl s' hs => ?_) fun e s' hs => hs
  match fl, hs with
  | .ret u, ⟨v, σ', H', J, r, q⟩ => exact ⟨v, H', J.os, J.bare, J.base, J.hok, r, q⟩
  | .next, ⟨σ', H', J, q⟩ => exact ⟨.non, H', J.os, J.bare, J.base, J.hok, rfl, q⟩
  | .brk, ⟨_, _, _, q⟩ => exact q.elim
  | .cont, ⟨_, _, _, q⟩ => exact q.elim
end
section
variable {X : Cx} {k : Nat} {f : Addr} {fd : FuncData} {ps : List Str} {sp : Sp}
theorem quiet_run {pins : List (Addr × Obj)} {σ : L2.St} {H : Hp} {s : Shared} {Q : VK} {us : List Value} {vs : List V} (F : Quiet X.prog X.w X.K X.mg X.base k f fd ps sp) (hq : X.A.guards = some []) (hr : Room k X.A) (hb : Binds X.K fd ps [])
    (I : Inv X pins σ H s) (r : Vals vs us) (h : sp (vs ++ []) H Q E0) : wpAny (model X.prog X.w) X.A (call (.ref f) us) (EP X pins σ Q) X.xe s := by
  have r2 : Vals (vs ++ []) (us ++ []) := r.append .nil
  refine wpAny_call (codeAny_mono (F.run X.A X.stack s H ⟨us, []⟩ (us ++ []) (vs ++ []) Q E0 hq hr I.env0 (hb s us I.kIn (by rw [← r2.length]; exact F.len _ _ _ _ h)) r2 h) fun r s' z => ?_)
  match r, z with
  | .error _, z => exact z.elim
  | .ok (.ret u), z => exact I.after z
  | .ok .next, z => exact z.elim
  | .ok .brk, z => exact z.elim
  | .ok .cont, z => exact z.elim
theorem pe_callQ {x : Str} {p pos : Pos} {e : Expr} {es : List Expr} {t : TA} (F : Quiet X.prog X.w X.K X.mg X.base k f fd ps sp) (hq : X.A.guards = some []) (hr : Room k X.A) (hg : Gl X x) (hm : X.mg x = some (.ref f)) (hk : PySem.W.keepIn X.K (.ref f) = true) (hb : Binds X.K fd ps [])
    (ha : PA X (e :: es) t) (hdb : (x == ("__debug__" : Str)) = false := by decide) (he : starEach (e :: es) X.env = (false, eval e X.env) :: starEach es X.env := by rfl) (hpl : (backTo pos (starEach es X.env)).any (·.1) = false := by rfl) :
    PE X (.Call (.Name x p) (e :: es) [] pos) (tCall sp [] E0 t) :=
  ⟨fun pins s σ H Q I h => wpAny_Call_Name_kw (ld_glob I hg hm (PySem.W.callWith_K (h₀ := X.base) I.ok.mod.kin hk (thn (ha.run pos pins s σ H _ I h) fun us s1 ⟨vs, H1, I1, r, q⟩ => ⟨I1.kIn, quiet_run F hq hr hb I1 r q⟩) he hpl) hdb)⟩
/-- repr of lists and tuples -/
def rShow (X : Cx) : List V → Hp → VK → Prop := fun xs H Q => X.A.guards = some [] ∧ ∃ a d, xs = [.ref a] ∧ Dp X.K H (.ref a) d ∧ d.showable = true ∧ d.hasDict = false ∧ d.depth ≤ 60 ∧ d.shown.length ≤ sizeLine ∧ Q (.str d.shown) H
theorem call_show (hu : X.A.units + 64 < cLine) : CallR X (.builtin "repr") (rShow X) := by
  intro pins s σ H xs us Q I r h
  obtain ⟨hg, a, d, rfl, hd, hs, hn, hp, hz, q⟩ := h
  cases r with
  | cons r rr =>
    cases rr
    cases r
    obtain ⟨as, rd⟩ := Dp.reads I d _ _ hd rfl
    exact repr_of_reads' rd hs (fun z => by rw [hn] at z; cases z) hg (by omega) (fun _ _ e => e) (fun h' u tk hk => ⟨.str d.shown, H, I.kept hk, ⟨u, rfl⟩, q⟩) hz
end
end J

/-! ### data that may be shown -/
namespace J
open PySem L2
structure Shw (D B : Nat) (d : PyData) : Prop where
  sh : d.showable = true
  nd : d.hasDict = false
  dp : d.depth ≤ D
  ln : d.shown.length ≤ B
theorem Shw.mono {D B D' B' : Nat} {d : PyData} (h : Shw D B d) (h1 : D ≤ D') (h2 : B ≤ B') : Shw D' B' d := ⟨h.sh, h.nd, Nat.le_trans h.dp h1, Nat.le_trans h.ln h2⟩
theorem shw_all {D B : Nat} : ∀ {ds : List PyData}, (∀ d ∈ ds, Shw D B d) → PyData.showableAll ds = true ∧ PyData.hasDictAll ds = false ∧ PyData.depthAll ds ≤ D ∧ ((PyData.shownAll ds).map (·.length)).sum ≤ B * ds.length ∧ (PyData.shownAll ds).length = ds.length
  | [], _ => ⟨rfl, rfl, Nat.zero_le _, Nat.zero_le _, rfl⟩
  | d :: ds, h => by
    obtain ⟨a, b, c, e, f⟩ := shw_all fun x hx => h x (List.mem_cons_of_mem _ hx)
    obtain ⟨h1, h2, h3, h4⟩ := h d (List.mem_cons_self ..)
    refine ⟨by show (d.showable && PyData.showableAll ds) = true; rw [h1, a]; rfl, by show (d.hasDict || PyData.hasDictAll ds) = false; rw [h2, b]; rfl, by show max d.depth (PyData.depthAll ds) ≤ D; omega, ?_, congrArg (· + 1) f⟩
    show d.shown.length + ((PyData.shownAll ds).map (·.length)).sum ≤ B * (ds.length + 1)
    rw [Nat.mul_add, Nat.mul_one]; omega
theorem shw_list {D B : Nat} {ds : List PyData} (h : ∀ d ∈ ds, Shw D B d) : Shw (D + 1) ((B + 2) * ds.length + 3) (.list ds) := by
  obtain ⟨a, b, c, e, f⟩ := shw_all h
  refine ⟨a, b, Nat.succ_le_succ c, ?_⟩
  have := listText_len_le (PyData.shownAll ds)
  rw [f] at this
  refine Nat.le_trans this ?_
  rw [Nat.add_mul]; omega
theorem shw_tuple {D B : Nat} {ds : List PyData} (h : ∀ d ∈ ds, Shw D B d) : Shw (D + 1) ((B + 2) * ds.length + 3) (.tuple ds) := by
  obtain ⟨a, b, c, e, f⟩ := shw_all h
  refine ⟨a, b, Nat.succ_le_succ c, ?_⟩
  have := tupleText_len_le (PyData.shownAll ds)
  rw [f] at this
  refine Nat.le_trans this ?_
  rw [Nat.add_mul]; omega
theorem log_of_lt {n k : Nat} (h : n < 2 ^ k) (hk : 0 < k) : n.log2 < k := by
  by_cases z : n = 0
  · subst z; exact hk
  · exact (Nat.log2_lt z).mpr h
theorem shw_int {i : Int} (h : i.natAbs < 10 ^ 12) : Shw 0 13 (.int i) := by
  refine ⟨?_, rfl, Nat.le_refl _, PyData.shown_int_le h⟩
  show decide (i.natAbs.log2 < 1920) = true
  refine decide_eq_true (Nat.lt_trans (log_of_lt (k := 40) (Nat.lt_trans h (by decide)) (by decide)) (by decide))
theorem shw_str {x : Str} (h : ∀ c ∈ x.cps.toList, c < 16 ^ 8) : Shw 0 (10 * x.length + 2) (.str x) := ⟨rfl, rfl, Nat.le_refl _, StrLaws.reprText_len x h⟩
theorem dp_ints {K : PySem.W.Frag} {H : Hp} : ∀ q : List Int, DpAll K H (q.map V.int) (q.map PyData.int)
  | [] => .nil
  | _ :: q => .cons (.int _) (dp_ints q)
theorem dp_all {K : PySem.W.Frag} {H : Hp} : ∀ {vs : List V} {ds : List PyData}, vs.length = ds.length → (∀ (k : Nat) v d, vs[k]? = some v → ds[k]? = some d → Dp K H v d) → DpAll K H vs ds
  | [], [], _, _ => .nil
  | [], _ :: _, h, _ => nomatch h
  | _ :: _, [], h, _ => nomatch h
  | v :: vs, d :: ds, h, f => .cons (f 0 v d rfl rfl) (dp_all (Nat.succ.inj h) fun k v d e1 e2 => f (k + 1) v d e1 e2)
end J

/-! ### repr of a table of terms -/
namespace J
open PySem PySem.Spec PyProof.Rows L2
mutual
def tmD : Tm → PyData
  | .var n => .int n
  | .app f ts => .tuple (.str f :: tmDs ts)
def tmDs : List Tm → List PyData
  | [] => []
  | t :: ts => tmD t :: tmDs ts
end
/-- the table at its entries, in their order -/
def TbIn (H : Hp) : List (Key × V) → List (Int × Tm) → Prop
  | [], [] => True
  | kv :: r, x :: l => kv.1 = .inl x.1 ∧ TmIn H x.2 kv.2 ∧ TbIn H r l
  | _, _ => False
def tbD (l : List (Int × Tm)) : PyData := .dict (l.map fun x => (.int x.1, tmD x.2))
section
variable {X : Cx} {pins : List (Addr × Obj)} {σ : L2.St} {H : Hp} {s : Shared}
mutual
theorem tm_reads (I : Inv X pins σ H s) : ∀ (t : Tm) (v : V) (u : Value), TmIn H t v → RelV v u → Reads s.heap u (tmD t) []
  | .var n, v, u, h, r => by
    cases (show v = .int n from h)
    obtain ⟨t, rfl⟩ := r
    exact Reads.int n t
  | .app f ts, v, u, h, r => by
    obtain ⟨a, vs, rfl, ha, hts⟩ := h
    cases (show u = .ref a from r)
    obtain ⟨its, rv, ⟨o, e, hc, n, hd⟩, _⟩ := I.tuple (SqT.of ha)
    refine Reads.tuple e hc hd ?_
    cases rv with
    | cons r1 rr =>
      obtain ⟨tk, rfl⟩ := r1
      exact ReadsAll.cons (as := []) (Reads.str f tk) (tms_reads I ts vs _ hts rr)
theorem tms_reads (I : Inv X pins σ H s) : ∀ (ts : List Tm) (vs : List V) (us : List Value), TmsIn H ts vs → Vals vs us → ReadsAll s.heap us (tmDs ts) []
  | [], vs, us, h, r => by
    cases (show vs = [] from h)
    cases r
    exact ReadsAll.nil
  | t :: ts, vs, us, h, r => by
    obtain ⟨v, w, rfl, h1, h2⟩ := h
    cases r with
    | cons r1 rr => exact ReadsAll.cons (as := []) (tm_reads I t v _ h1 r1) (tms_reads I ts w _ h2 rr)
end
end
mutual
theorem tmD_shw {fs : List Str} {B : Int} (hn : Names fs) (hB : B ≤ 1000) : ∀ t : Tm, t.wf fs B → (tmD t).showable = true ∧ (tmD t).hasDict = false ∧ (tmD t).depth ≤ t.dep ∧ (tmD t).shown.length + 10 ≤ 90 * t.sz
  | .var n, w => by
    have w : 0 ≤ n ∧ n < B := w
    have h := shw_int (i := n) (Nat.lt_trans (show n.natAbs < 10000 by omega) (by decide))
    have := h.ln
    exact ⟨h.sh, h.nd, Nat.zero_le _, by show (PyData.int n).shown.length + 10 ≤ 90 * 1; omega⟩
  | .app f ts, w => by
    obtain ⟨⟨k, hk, _⟩, w⟩ := (show (∃ k, fs[k]? = some f ∧ ts.length = ar k) ∧ Tm.wfs fs B ts from w)
    have hf := List.mem_of_getElem? hk
    have h1 := hn.hi f hf
    have h2 := shw_str (x := f) fun c hc => Nat.lt_of_le_of_lt (hn.low f hf c hc).2 (by decide)
    obtain ⟨a, b, c, d, e⟩ := tmDs_shw hn hB ts w
    refine ⟨by show ((PyData.str f).showable && PyData.showableAll (tmDs ts)) = true; rw [h2.sh, a]; rfl, by show ((PyData.str f).hasDict || PyData.hasDictAll (tmDs ts)) = false; rw [h2.nd, b]; rfl, ?_, ?_⟩
    · show max (PyData.str f).depth (PyData.depthAll (tmDs ts)) + 1 ≤ 1 + Tm.deps ts
      have : (PyData.str f).depth = 0 := rfl
      omega
    · have h3 := tupleText_len_le (PyData.shownAll (.str f :: tmDs ts))
      have h4 := h2.ln
      have e1 : ((PyData.shownAll (.str f :: tmDs ts)).map (·.length)).sum = (PyData.str f).shown.length + ((PyData.shownAll (tmDs ts)).map (·.length)).sum := rfl
      have e2 : (PyData.shownAll (.str f :: tmDs ts)).length = (PyData.shownAll (tmDs ts)).length + 1 := rfl
      show (tupleText (PyData.shownAll (.str f :: tmDs ts))).length + 10 ≤ 90 * (1 + Tm.szs ts)
      omega
theorem tmDs_shw {fs : List Str} {B : Int} (hn : Names fs) (hB : B ≤ 1000) : ∀ ts : List Tm, Tm.wfs fs B ts → PyData.showableAll (tmDs ts) = true ∧ PyData.hasDictAll (tmDs ts) = false ∧ PyData.depthAll (tmDs ts) ≤ Tm.deps ts ∧ ((PyData.shownAll (tmDs ts)).map (·.length)).sum + 10 * ts.length ≤ 90 * Tm.szs ts ∧ (PyData.shownAll (tmDs ts)).length = ts.length
  | [], _ => ⟨rfl, rfl, Nat.zero_le _, Nat.zero_le _, rfl⟩
  | t :: ts, w => by
    obtain ⟨a, b, c, d⟩ := tmD_shw hn hB t w.1
    obtain ⟨a', b', c', d', e'⟩ := tmDs_shw hn hB ts w.2
    refine ⟨by show ((tmD t).showable && PyData.showableAll (tmDs ts)) = true; rw [a, a']; rfl, by show ((tmD t).hasDict || PyData.hasDictAll (tmDs ts)) = false; rw [b, b']; rfl, ?_, ?_, congrArg (· + 1) e'⟩
    · show max (tmD t).depth (PyData.depthAll (tmDs ts)) ≤ max t.dep (Tm.deps ts); omega
    · show (tmD t).shown.length + ((PyData.shownAll (tmDs ts)).map (·.length)).sum + 10 * (ts.length + 1) ≤ 90 * (t.sz + Tm.szs ts)
      omega
end
theorem tbD_shw {fs : List Str} {B : Int} (hn : Names fs) (hB : B ≤ 1000) : ∀ l : List (Int × Tm), (∀ x ∈ l, x.1.natAbs < 10000 ∧ x.2.wf fs B ∧ x.2.sz ≤ 1000 ∧ x.2.dep ≤ 50) →
    PyData.showableKv (l.map fun x => (PyData.int x.1, tmD x.2)) = true ∧ PyData.depthKv (l.map fun x => (PyData.int x.1, tmD x.2)) ≤ 50 ∧ ((PyData.shownKv (l.map fun x => (PyData.int x.1, tmD x.2))).map (·.length)).sum ≤ 90100 * l.length ∧ (PyData.shownKv (l.map fun x => (PyData.int x.1, tmD x.2))).length = l.length
  | [], _ => ⟨rfl, Nat.zero_le _, Nat.zero_le _, rfl⟩
  | x :: l, h => by
    obtain ⟨a, b, c, d⟩ := tbD_shw hn hB l fun y hy => h y (List.mem_cons_of_mem _ hy)
    obtain ⟨h1, h2, h3, h4⟩ := h x (List.mem_cons_self ..)
    have hi := shw_int (i := x.1) (Nat.lt_trans h1 (by decide))
    obtain ⟨s1, _, s3, s4⟩ := tmD_shw hn hB x.2 h2
    refine ⟨by show ((PyData.int x.1).showable && (tmD x.2).showable && PyData.showableKv _) = true; rw [hi.sh, s1, a]; rfl, ?_, ?_, congrArg (· + 1) d⟩
    · show max (max (PyData.int x.1).depth (tmD x.2).depth) (PyData.depthKv _) ≤ 50
      have : (PyData.int x.1).depth = 0 := rfl
      omega
    · show ((PyData.int x.1).shown ++ ": " ++ (tmD x.2).shown).length + ((PyData.shownKv (l.map fun x => (PyData.int x.1, tmD x.2))).map (·.length)).sum ≤ 90100 * (l.length + 1)
      rw [len_app, len_app]
      have e : (": " : Str).length = 2 := by decide +kernel
      have := hi.ln
      omega
theorem TbIn.length {H : Hp} : ∀ {kvs : List (Key × V)} {l : List (Int × Tm)}, TbIn H kvs l → kvs.length = l.length
  | [], [], _ => rfl
  | [], _ :: _, h => h.elim
  | _ :: _, [], h => h.elim
  | _ :: _, _ :: _, h => congrArg (· + 1) (TbIn.length h.2.2)
theorem TbIn.tu {H H' : Hp} (t : Tu H H') : ∀ {kvs : List (Key × V)} {l : List (Int × Tm)}, TbIn H kvs l → TbIn H' kvs l
  | [], [], _ => trivial
  | [], _ :: _, h => h.elim
  | _ :: _, [], h => h.elim
  | _ :: _, _ :: _, h => ⟨h.1, h.2.1.tu t, TbIn.tu t h.2.2⟩
theorem TbIn.snoc {H : Hp} {n : Int} {t : Tm} {v : V} (ht : TmIn H t v) : ∀ {kvs : List (Key × V)} {l : List (Int × Tm)}, TbIn H kvs l → TbIn H (kvs ++ [(.inl n, v)]) (l ++ [(n, t)])
  | [], [], _ => ⟨rfl, ht, trivial⟩
  | [], _ :: _, h => h.elim
  | _ :: _, [], h => h.elim
  | _ :: _, _ :: _, h => ⟨h.1, h.2.1, TbIn.snoc ht h.2.2⟩
def look : List (Int × Tm) → Int → Option Tm
  | [], _ => none
  | x :: l, n => if x.1 = n then some x.2 else look l n
theorem TbIn.val {H : Hp} (n : Int) : ∀ {kvs : List (Key × V)} {l : List (Int × Tm)}, TbIn H kvs l → match look l n with
    | none => valV kvs (.inl n) = none
    | some t => ∃ v, valV kvs (.inl n) = some v ∧ TmIn H t v
  | [], [], _ => rfl
  | [], _ :: _, h => h.elim
  | _ :: _, [], h => h.elim
  | kv :: r, x :: l, h => by
    by_cases e : x.1 = n
    · rw [show look (x :: l) n = some x.2 from if_pos e]
      exact ⟨kv.2, valV_pos (by rw [h.1, e]), h.2.1⟩
    · rw [show look (x :: l) n = look l n from if_neg e, valV_neg (by rw [h.1]; exact fun z => e (Sum.inl.inj z))]
      exact TbIn.val n h.2.2
theorem TbIn.sb {H : Hp} {d : Addr} {kvs : List (Key × V)} {l : List (Int × Tm)} (h : H d = some (.dK kvs)) (t : TbIn H kvs l) : SbIn H d (look l) := ⟨kvs, h, fun n => t.val n⟩
theorem look_mem {n : Int} {t : Tm} : ∀ {l : List (Int × Tm)}, look l n = some t → (n, t) ∈ l
  | [], h => nomatch h
  | x :: l, h => by
    by_cases e : x.1 = n
    · rw [show look (x :: l) n = some x.2 from if_pos e] at h
      cases h
      rw [← e]; exact List.mem_cons_self ..
    · rw [show look (x :: l) n = look l n from if_neg e] at h
      exact List.mem_cons_of_mem _ (look_mem h)
theorem look_none {n : Int} : ∀ {l : List (Int × Tm)}, (∀ x ∈ l, x.1 ≠ n) → look l n = none
  | [], _ => rfl
  | x :: l, h => by
    rw [show look (x :: l) n = look l n from if_neg (h x (List.mem_cons_self ..))]
    exact look_none fun y hy => h y (List.mem_cons_of_mem _ hy)
section
variable {X : Cx} {pins : List (Addr × Obj)} {σ : L2.St} {H : Hp} {s : Shared}
theorem tb_keys (h : Heap) : ∀ {kvs : List (Key × V)} {l : List (Int × Tm)} {vs : List (Key × Value)} {es : List DictEntry} {P : Program} {w : World}, TbIn H kvs l → KV kvs vs → Pairs (mixKind P w) es vs → ReadsAll h (es.map (·.key)) ((l.map fun x => (PyData.int x.1, tmD x.2)).map (·.1)) []
  | [], [], _, _, _, _, _, k, p => by
    cases k; cases p
    exact ReadsAll.nil
  | [], _ :: _, _, _, _, _, h, _, _ => h.elim
  | _ :: _, [], _, _, _, _, h, _, _ => h.elim
  | kv :: r, x :: l, _, _, _, _, ⟨e, _, h2⟩, k, p => by
    cases k with
    | cons k1 kr =>
      cases p with
      | cons p1 p2 pr =>
        have p1 : keyIs _ _ = true := p1
        rw [← k1.1, e] at p1
        rcases keyIs_shape p1 with ⟨i, t, e1, e2⟩ | ⟨y, t, e1, _⟩
        · cases e1
          refine ReadsAll.cons (as := []) ?_ (tb_keys h h2 kr pr)
          show Reads h (DictEntry.key _) _ _
          rw [e2]
          exact Reads.int _ t
        · cases e1
theorem tb_vals (I : Inv X pins σ H s) : ∀ {kvs : List (Key × V)} {l : List (Int × Tm)} {vs : List (Key × Value)} {es : List DictEntry} {P : Program} {w : World}, TbIn H kvs l → KV kvs vs → Pairs (mixKind P w) es vs → ReadsAll s.heap (es.map (·.val)) ((l.map fun x => (PyData.int x.1, tmD x.2)).map (·.2)) []
  | [], [], _, _, _, _, _, k, p => by
    cases k; cases p
    exact ReadsAll.nil
  | [], _ :: _, _, _, _, _, h, _, _ => h.elim
  | _ :: _, [], _, _, _, _, h, _, _ => h.elim
  | kv :: r, x :: l, _, _, _, _, ⟨_, h1, h2⟩, k, p => by
    cases k with
    | cons k1 kr =>
      cases p with
      | cons p1 p2 pr =>
        refine ReadsAll.cons (as := []) ?_ (tb_vals I h2 kr pr)
        show Reads s.heap (DictEntry.val _) _ _
        rw [p2]
        exact tm_reads I _ _ _ h1 k1.2
/-- repr of a table -/
def rShowT (X : Cx) : List V → Hp → VK → Prop := fun xs H Q => X.A.guards = some [] ∧ ∃ a kvs l fs, ∃ B : Int, xs = [.ref a] ∧ H a = some (.dK kvs) ∧ TbIn H kvs l ∧ Names fs ∧ B ≤ 1000 ∧ (∀ x ∈ l, x.1.natAbs < 10000 ∧ x.2.wf fs B ∧ x.2.sz ≤ 1000 ∧ x.2.dep ≤ 50) ∧ l.length ≤ 30 ∧ Q (.str (tbD l).shown) H
theorem call_showT (hu : X.A.units + 64 < cLine) : CallR X (.builtin "repr") (rShowT X) := by
  intro pins s σ H xs us Q I r h
  obtain ⟨hg, a, kvs, l, fs, B, rfl, ha, ht, hn, hB, hl, hz, q⟩ := h
  obtain ⟨a1, a2, a3, a4⟩ := tbD_shw hn hB l hl
  cases r with
  | cons r rr =>
    cases rr
    cases r
    obtain ⟨_, hS, vs, k, o, es, ep, e, ⟨hc, _, _⟩, hd, _, pr, _⟩ := dk_of I.hok ha
    have rd : Reads s.heap (.ref a) (tbD l) (a :: [] ++ []) := Reads.dict e hc hd (tb_keys s.heap ht k pr) (tb_vals I ht k pr)
    have hln : (tbD l).shown.length ≤ sizeLine := by
      refine Nat.le_trans (dictText_len_le _) (Nat.le_trans (show _ ≤ 3000000 from ?_) (by decide))
      rw [a4]; omega
    have hdp : (tbD l).depth ≤ 51 := Nat.succ_le_succ a2
    refine repr_of_reads' rd a1 (fun _ z => ?_) hg (by omega) (fun _ _ e => e) (fun h' u tk hk => ⟨.str (tbD l).shown, H, I.kept hk, ⟨u, rfl⟩, q⟩) hln
    rcases List.mem_cons.mp z with z | z
    · rw [← z, beq_self_eq_true] at hS; cases hS
    · cases z
end
end J

/-! ### canonical forms -/
namespace J
open PySem L2
/-- the place of n in u, counted from k -/
def ix : Nat → List Int → Int → Option Nat
  | _, [], _ => none
  | k, a :: r, n => if a = n then some k else ix (k + 1) r n
/-- the dict that numbers u from k on -/
def knf : Nat → List Int → List (Key × V)
  | _, [] => []
  | k, a :: r => (.inl a, .int (k : Int)) :: knf (k + 1) r
def rnm (u : List Int) : Int → Option Tm := fun n => (ix 0 u n).map fun (k : Nat) => Tm.var (k : Int)
theorem knf_val : ∀ (u : List Int) (k : Nat) (n : Int), valV (knf k u) (.inl n) = (ix k u n).map fun (j : Nat) => V.int (j : Int)
  | [], _, _ => rfl
  | a :: r, k, n => by
    by_cases h : a = n
    · subst h
      show valV (((.inl a : Key), V.int (k : Int)) :: knf (k + 1) r) (.inl a) = (if a = a then some k else _).map _
      rw [if_pos rfl]
      exact valV_pos (p := ((.inl a : Key), V.int (k : Int))) rfl
    · have e : ¬ ((Sum.inl a : Key) = .inl n) := fun z => h (Sum.inl.inj z)
      show valV (((.inl a : Key), V.int (k : Int)) :: knf (k + 1) r) (.inl n) = (if a = n then some k else ix (k + 1) r n).map _
      rw [if_neg h, valV_neg e, knf_val r]
theorem knf_len : ∀ (u : List Int) (k : Nat), (knf k u).length = u.length
  | [], _ => rfl
  | _ :: r, k => by show (knf (k + 1) r).length + 1 = r.length + 1; rw [knf_len r]
theorem ix_none : ∀ (u : List Int) (k : Nat) (n : Int), ix k u n = none ↔ n ∉ u
  | [], _, n => by show none = none ↔ _; simp
  | a :: r, k, n => by
    show (if a = n then some k else ix (k + 1) r n) = none ↔ _
    by_cases h : a = n
    · rw [if_pos h]; subst h; simp
    · rw [if_neg h, ix_none r, List.mem_cons, not_or]
      exact ⟨fun z => ⟨fun w => h w.symm, z⟩, fun z => z.2⟩
theorem knf_snoc : ∀ (u : List Int) (k : Nat) (n : Int), knf k (u ++ [n]) = knf k u ++ [(.inl n, .int ((k + u.length : Nat) : Int))]
  | [], _, _ => rfl
  | a :: r, k, n => by
    show ((.inl a : Key), V.int (k : Int)) :: knf (k + 1) (r ++ [n]) = ((.inl a : Key), V.int (k : Int)) :: (knf (k + 1) r ++ _)
    rw [knf_snoc r, show k + 1 + r.length = k + (a :: r).length by rw [List.length_cons]; omega]
theorem knf_put {u : List Int} {n : Int} (h : n ∉ u) : putK (knf 0 u) (.inl n) (.int (u.length : Int)) = knf 0 (u ++ [n]) := by
  rw [putK_new _ (by rw [knf_val, (ix_none u 0 n).mpr h]; rfl), knf_snoc, Nat.zero_add]
theorem rnm_in {H : Hp} {d : Addr} {u : List Int} (h : H d = some (.dK (knf 0 u))) : SbIn H d (rnm u) := by
  refine ⟨_, h, fun n => ?_⟩
  unfold rnm
  rw [knf_val]
  cases ix 0 u n with
  | none => rfl
  | some k => exact ⟨_, rfl, rfl⟩
def both (l r : Tm) : List Int := adds [] (vars l ++ vars r)
def canon (l r : Tm) : Tm × Tm := (sub (rnm (both l r)) l, sub (rnm (both l r)) r)
/-- variables renamed by g -/
def ren (g : Int → Int) (t : Tm) : Tm := sub (fun n => some (.var (g n))) t
theorem vars_mem (t : Tm) (n : Int) : n ∈ vars t ↔ n ∈ occ t := by
  unfold vars
  rw [adds_mem]
  simp
theorem both_mem (l r : Tm) (n : Int) : n ∈ both l r ↔ n ∈ occ l ∨ n ∈ occ r := by
  unfold both
  rw [adds_mem, List.mem_append, vars_mem, vars_mem]
  simp
theorem both_occ (l r : Tm) : both l r = adds [] (occ l ++ occ r) := by
  unfold both vars
  rw [adds_app, adds_app, adds_two, adds_two]
  rfl
mutual
theorem occ_sub (m : Int → Option Tm) (g : Int → Int) : ∀ t : Tm, (∀ n ∈ occ t, m n = some (.var (g n))) → occ (sub m t) = (occ t).map g
  | .var n, h => by
    show occ ((m n).getD (.var n)) = _
    rw [h n (List.mem_singleton.mpr rfl)]; rfl
  | .app f ts, h => by show occs (subs m ts) = (occs ts).map g; exact occs_sub m g ts h
theorem occs_sub (m : Int → Option Tm) (g : Int → Int) : ∀ ts : List Tm, (∀ n ∈ occs ts, m n = some (.var (g n))) → occs (subs m ts) = (occs ts).map g
  | [], _ => rfl
  | t :: ts, h => by
    show occ (sub m t) ++ occs (subs m ts) = (occ t ++ occs ts).map g
    rw [occ_sub m g t fun n hn => h n (List.mem_append.mpr (.inl hn)), occs_sub m g ts fun n hn => h n (List.mem_append.mpr (.inr hn)), List.map_append]
end
theorem adds_map (g : Int → Int) : ∀ (l acc : List Int), (∀ a ∈ acc ++ l, ∀ b ∈ acc ++ l, g a = g b → a = b) → adds (acc.map g) (l.map g) = (adds acc l).map g
  | [], _, _ => rfl
  | n :: r, acc, inj => by
    show adds (if g n ∈ acc.map g then acc.map g else acc.map g ++ [g n]) (r.map g) = (adds (if n ∈ acc then acc else acc ++ [n]) r).map g
    by_cases h : n ∈ acc
    · rw [if_pos h, if_pos (List.mem_map.mpr ⟨n, h, rfl⟩)]
      exact adds_map g r acc fun a ha b hb => inj a (by simp at ha ⊢; rcases ha with z | z <;> simp [z]) b (by simp at hb ⊢; rcases hb with z | z <;> simp [z])
    · have h2 : g n ∉ acc.map g := fun z => by
        obtain ⟨a, ha, e⟩ := List.mem_map.mp z
        have := inj a (List.mem_append.mpr (.inl ha)) n (by simp) e
        exact h (this ▸ ha)
      rw [if_neg h, if_neg h2]
      have e : acc.map g ++ [g n] = (acc ++ [n]).map g := by rw [List.map_append]; rfl
      rw [e]
      exact adds_map g r (acc ++ [n]) fun a ha b hb => inj a (by rw [List.append_assoc] at ha; exact ha) b (by rw [List.append_assoc] at hb; exact hb)
theorem ix_map (g : Int → Int) : ∀ (u : List Int) (k : Nat) (n : Int), (∀ a ∈ u, g a = g n → a = n) → ix k (u.map g) (g n) = ix k u n
  | [], _, _, _ => rfl
  | a :: r, k, n, inj => by
    show (if g a = g n then some k else ix (k + 1) (r.map g) (g n)) = (if a = n then some k else ix (k + 1) r n)
    by_cases h : a = n
    · rw [if_pos h, if_pos (by rw [h])]
    · rw [if_neg h, if_neg fun z => h (inj a (List.mem_cons_self ..) z)]
      exact ix_map g r (k + 1) n fun b hb => inj b (List.mem_cons_of_mem _ hb)
mutual
theorem sub_ren (m m' : Int → Option Tm) (g : Int → Int) (v : Int → Option Tm) : ∀ t : Tm, (∀ n ∈ occ t, v n = some (.var (g n)) ∧ ((m' (g n)).getD (.var (g n))) = ((m n).getD (.var n))) → sub m' (sub v t) = sub m t
  | .var n, h => by
    obtain ⟨h1, h2⟩ := h n (List.mem_singleton.mpr rfl)
    show sub m' ((v n).getD (.var n)) = (m n).getD (.var n)
    rw [h1, ← h2]; rfl
  | .app f ts, h => by show Tm.app f (subs m' (subs v ts)) = .app f (subs m ts); rw [subs_ren m m' g v ts h]
theorem subs_ren (m m' : Int → Option Tm) (g : Int → Int) (v : Int → Option Tm) : ∀ ts : List Tm, (∀ n ∈ occs ts, v n = some (.var (g n)) ∧ ((m' (g n)).getD (.var (g n))) = ((m n).getD (.var n))) → subs m' (subs v ts) = subs m ts
  | [], _ => rfl
  | t :: ts, h => by
    show sub m' (sub v t) :: subs m' (subs v ts) = sub m t :: subs m ts
    rw [sub_ren m m' g v t fun n hn => h n (List.mem_append.mpr (.inl hn)), subs_ren m m' g v ts fun n hn => h n (List.mem_append.mpr (.inr hn))]
end
/-- renaming does not change the canonical form -/
theorem canon_ren {l r : Tm} (v : Int → Option Tm) (g : Int → Int) (hv : ∀ n, n ∈ occ l ∨ n ∈ occ r → v n = some (.var (g n)))
    (inj : ∀ a b, (a ∈ occ l ∨ a ∈ occ r) → (b ∈ occ l ∨ b ∈ occ r) → g a = g b → a = b) : canon (sub v l) (sub v r) = canon l r := by
  have e : both (sub v l) (sub v r) = (both l r).map g := by
    rw [both_occ, both_occ, occ_sub v g l fun n hn => hv n (.inl hn), occ_sub v g r fun n hn => hv n (.inr hn), ← List.map_append]
    exact adds_map g _ [] fun a ha b hb => inj a b (List.mem_append.mp ha) (List.mem_append.mp hb)
  unfold canon
  rw [e]
  have key : ∀ n, n ∈ occ l ∨ n ∈ occ r → ((rnm ((both l r).map g) (g n)).getD (.var (g n))) = ((rnm (both l r) n).getD (.var n)) := by
    intro n hn
    unfold rnm
    rw [ix_map g _ 0 n fun a ha => inj a n ((both_mem l r a).mp ha) hn]
    cases h : ix 0 (both l r) n with
    | none => exact absurd ((both_mem l r n).mpr hn) ((ix_none _ _ _).mp h)
    | some k => rfl
  rw [sub_ren (rnm (both l r)) _ g v l fun n hn => ⟨hv n (.inl hn), key n (.inl hn)⟩, sub_ren (rnm (both l r)) _ g v r fun n hn => ⟨hv n (.inr hn), key n (.inr hn)⟩]
theorem ix_lt : ∀ (u : List Int) (k : Nat) (n : Int) (j : Nat), ix k u n = some j → k ≤ j ∧ u[j - k]? = some n
  | [], _, _, _, h => nomatch h
  | a :: r, k, n, j, h => by
    have h : (if a = n then some k else ix (k + 1) r n) = some j := h
    by_cases e : a = n
    · rw [if_pos e] at h; cases h
      exact ⟨Nat.le_refl _, by rw [Nat.sub_self, e]; rfl⟩
    · rw [if_neg e] at h
      have := ix_lt r (k + 1) n j h
      refine ⟨by omega, ?_⟩
      rw [show j - k = (j - (k + 1)) + 1 by omega, List.getElem?_cons_succ]
      exact this.2
theorem canon_twice (l r : Tm) : canon (canon l r).1 (canon l r).2 = canon l r := by
  let g : Int → Int := fun n => match ix 0 (both l r) n with | some k => (k : Int) | none => n
  have some_of : ∀ n, n ∈ occ l ∨ n ∈ occ r → ∃ k, ix 0 (both l r) n = some k := fun n hn => by
    cases h : ix 0 (both l r) n with
    | none => exact absurd ((both_mem l r n).mpr hn) ((ix_none _ _ _).mp h)
    | some k => exact ⟨k, rfl⟩
  refine canon_ren (rnm (both l r)) g (fun n hn => ?_) fun a b ha hb e => ?_
  · obtain ⟨k, hk⟩ := some_of n hn
    show (ix 0 (both l r) n).map (fun (k : Nat) => Tm.var (k : Int)) = some (Tm.var (match ix 0 (both l r) n with | some k => (k : Int) | none => n))
    rw [hk]; rfl
  · obtain ⟨k, hk⟩ := some_of a ha
    obtain ⟨j, hj⟩ := some_of b hb
    have e : (match ix 0 (both l r) a with | some k => (k : Int) | none => a) = (match ix 0 (both l r) b with | some k => (k : Int) | none => b) := e
    rw [hk, hj] at e
    have e : (k : Int) = (j : Int) := e
    have h1 := (ix_lt _ _ _ _ hk).2
    have h2 := (ix_lt _ _ _ _ hj).2
    have : k = j := by omega
    rw [this] at h1
    rw [h1] at h2
    exact Option.some.inj h2
mutual
theorem sz_sub_var (m : Int → Option Tm) (hm : ∀ n t, m n = some t → t.sz = 1 ∧ t.dep = 1) : ∀ t : Tm, (sub m t).sz = t.sz ∧ (sub m t).dep = t.dep
  | .var n => by
    show ((m n).getD (.var n)).sz = 1 ∧ ((m n).getD (.var n)).dep = 1
    cases h : m n with
    | none => exact ⟨rfl, rfl⟩
    | some t => exact hm n t h
  | .app f ts => by
    have := szs_sub_var m hm ts
    exact ⟨by show 1 + Tm.szs (subs m ts) = 1 + Tm.szs ts; rw [this.1], by show 1 + Tm.deps (subs m ts) = 1 + Tm.deps ts; rw [this.2]⟩
theorem szs_sub_var (m : Int → Option Tm) (hm : ∀ n t, m n = some t → t.sz = 1 ∧ t.dep = 1) : ∀ ts : List Tm, Tm.szs (subs m ts) = Tm.szs ts ∧ Tm.deps (subs m ts) = Tm.deps ts
  | [] => ⟨rfl, rfl⟩
  | t :: ts => by
    have h1 := sz_sub_var m hm t
    have h2 := szs_sub_var m hm ts
    exact ⟨by show (sub m t).sz + Tm.szs (subs m ts) = t.sz + Tm.szs ts; rw [h1.1, h2.1], by show max (sub m t).dep (Tm.deps (subs m ts)) = max t.dep (Tm.deps ts); rw [h1.2, h2.2]⟩
end
theorem rnm_var (u : List Int) (n : Int) (t : Tm) (h : rnm u n = some t) : t.sz = 1 ∧ t.dep = 1 := by
  unfold rnm at h
  cases e : ix 0 u n with
  | none => rw [e] at h; cases h
  | some k => rw [e] at h; cases h; exact ⟨rfl, rfl⟩
mutual
theorem occ_wf {fs : List Str} {B : Int} : ∀ t : Tm, t.wf fs B → ∀ n ∈ occ t, 0 ≤ n ∧ n < B
  | .var k, w, n, h => by rw [List.mem_singleton.mp h]; exact w
  | .app f ts, w, n, h => occs_wf ts w.2 n h
theorem occs_wf {fs : List Str} {B : Int} : ∀ ts : List Tm, Tm.wfs fs B ts → ∀ n ∈ occs ts, 0 ≤ n ∧ n < B
  | [], _, _, h => nomatch h
  | t :: ts, w, n, h => by
    rcases List.mem_append.mp (show n ∈ occ t ++ occs ts from h) with h | h
    · exact occ_wf t w.1 n h
    · exact occs_wf ts w.2 n h
end
end J

/-! ### steps: a pattern with the variable 9 at one place -/
namespace J
open PySem L2
mutual
theorem sub_id (m : Int → Option Tm) : ∀ t : Tm, (∀ n ∈ occ t, (m n).getD (.var n) = .var n) → sub m t = t
  | .var n, h => h n (List.mem_singleton.mpr rfl)
  | .app f ts, h => congrArg (Tm.app f) (subs_id m ts h)
theorem subs_id (m : Int → Option Tm) : ∀ ts : List Tm, (∀ n ∈ occs ts, (m n).getD (.var n) = .var n) → subs m ts = ts
  | [], _ => rfl
  | t :: ts, h => by
    show sub m t :: subs m ts = t :: ts
    rw [sub_id m t fun n hn => h n (List.mem_append.mpr (.inl hn)), subs_id m ts fun n hn => h n (List.mem_append.mpr (.inr hn))]
end
theorem occs_mem {n : Int} : ∀ {ts : List Tm}, n ∈ occs ts ↔ ∃ t ∈ ts, n ∈ occ t
  | [] => ⟨fun h => (nomatch h), fun ⟨_, h, _⟩ => nomatch h⟩
  | t :: ts => by
    show n ∈ occ t ++ occs ts ↔ _
    rw [List.mem_append, occs_mem (ts := ts)]
    constructor
    · rintro (h | ⟨u, h1, h2⟩)
      · exact ⟨t, List.mem_cons_self .., h⟩
      · exact ⟨u, List.mem_cons_of_mem _ h1, h2⟩
    · rintro ⟨u, h1, h2⟩
      rcases List.mem_cons.mp h1 with e | h1
      · rw [e] at h2; exact .inl h2
      · exact .inr ⟨u, h1, h2⟩
/-- what stood there, put in again -/
theorem sub_rep (m : Int → Option Tm) {z : Int} {c : Tm} (hz : (m z).getD (.var z) = c) : ∀ (q : List Int) (t : Tm), at? q t = some c → z ∉ occ t → (∀ n ∈ occ (rep (.var z) q t), n ≠ z → (m n).getD (.var n) = .var n) → sub m (rep (.var z) q t) = t
  | [], t, h, _, _ => by
    cases (show some t = some c from h)
    exact hz
  | k :: q, .var _, h, _, _ => nomatch h
  | k :: q, .app f ts, h, ho, hi => by
    rw [at_cons_app] at h
    by_cases h1 : 1 ≤ k
    · rw [if_pos h1] at h
      cases ht : ts[(k - 1).toNat]? with
      | none => rw [ht] at h; cases h
      | some t =>
        rw [ht] at h
        have h : at? q t = some c := h
        have hk := (List.getElem?_eq_some_iff.mp ht).1
        have e : ts.getD (k - 1).toNat (.var z) = t := by rw [List.getD_eq_getElem?_getD, ht]; rfl
        have ho : z ∉ occs ts := ho
        have hi : ∀ n ∈ occs (ts.set (k - 1).toNat (rep (.var z) q (ts.getD (k - 1).toNat (.var z)))), n ≠ z → (m n).getD (.var n) = .var n := hi
        rw [e] at hi
        have mt := List.mem_of_getElem? ht
        have ih := sub_rep m hz q t h (fun w => ho (occs_mem.mpr ⟨t, mt, w⟩)) fun n hn => hi n (occs_mem.mpr ⟨_, List.mem_set hk _, hn⟩)
        show Tm.app f (subs m (ts.set (k - 1).toNat (rep (.var z) q (ts.getD (k - 1).toNat (.var z))))) = .app f ts
        rw [e]
        congr 1
        rw [subs_map]
        refine List.ext_getElem? fun j => ?_
        rw [List.getElem?_map, List.getElem?_set]
        by_cases hj : (k - 1).toNat = j
        · subst hj
          rw [if_pos rfl, if_pos hk, ht]
          exact congrArg some ih
        · rw [if_neg hj]
          cases gj : ts[j]? with
          | none => rfl
          | some u =>
            refine congrArg some (sub_id m u fun n hn => ?_)
            have mu := List.mem_of_getElem? gj
            refine hi n (occs_mem.mpr ⟨u, ?_, hn⟩) fun w => ho (occs_mem.mpr ⟨u, mu, by rw [← w]; exact hn⟩)
            exact List.mem_of_getElem? (i := j) (by rw [List.getElem?_set, if_neg hj, gj])
    · rw [if_neg h1] at h; cases h
end J

/-! ### sizes, places and variables behind a substitution and a replacement -/
namespace J
open PySem L2
mutual
theorem sub_szM (m : Int → Option Tm) (M D : Nat) (h1 : 1 ≤ M) : ∀ t : Tm, (∀ n ∈ occ t, ((m n).getD (.var n)).sz ≤ M ∧ ((m n).getD (.var n)).dep ≤ 1 + D) → (sub m t).sz ≤ M * t.sz ∧ (sub m t).dep ≤ t.dep + D
  | .var n, h => by
    have := h n (List.mem_singleton.mpr rfl)
    show ((m n).getD (.var n)).sz ≤ M * 1 ∧ ((m n).getD (.var n)).dep ≤ 1 + D
    rw [Nat.mul_one]; exact this
  | .app f ts, h => by
    have := subs_szM m M D h1 ts h
    show 1 + Tm.szs (subs m ts) ≤ M * (1 + Tm.szs ts) ∧ 1 + Tm.deps (subs m ts) ≤ 1 + Tm.deps ts + D
    rw [Nat.mul_add]
    omega
theorem subs_szM (m : Int → Option Tm) (M D : Nat) (h1 : 1 ≤ M) : ∀ ts : List Tm, (∀ n ∈ occs ts, ((m n).getD (.var n)).sz ≤ M ∧ ((m n).getD (.var n)).dep ≤ 1 + D) → Tm.szs (subs m ts) ≤ M * Tm.szs ts ∧ Tm.deps (subs m ts) ≤ Tm.deps ts + D
  | [], _ => ⟨Nat.zero_le _, Nat.zero_le _⟩
  | t :: ts, h => by
    have a := sub_szM m M D h1 t fun n hn => h n (List.mem_append.mpr (.inl hn))
    have b := subs_szM m M D h1 ts fun n hn => h n (List.mem_append.mpr (.inr hn))
    show (sub m t).sz + Tm.szs (subs m ts) ≤ M * (t.sz + Tm.szs ts) ∧ max (sub m t).dep (Tm.deps (subs m ts)) ≤ max t.dep (Tm.deps ts) + D
    rw [Nat.mul_add]
    omega
end
mutual
theorem sub_wf {fs : List Str} {B C : Int} (m : Int → Option Tm) : ∀ t : Tm, t.wf fs B → (∀ n ∈ occ t, ((m n).getD (.var n)).wf fs C) → (sub m t).wf fs C
  | .var n, _, h => h n (List.mem_singleton.mpr rfl)
  | .app f ts, w, h => by
    obtain ⟨⟨k, h1, h2⟩, w⟩ := (show (∃ k, fs[k]? = some f ∧ ts.length = ar k) ∧ Tm.wfs fs B ts from w)
    exact ⟨⟨k, h1, by rw [subs_map, List.length_map]; exact h2⟩, subs_wf m ts w h⟩
theorem subs_wf {fs : List Str} {B C : Int} (m : Int → Option Tm) : ∀ ts : List Tm, Tm.wfs fs B ts → (∀ n ∈ occs ts, ((m n).getD (.var n)).wf fs C) → Tm.wfs fs C (subs m ts)
  | [], _, _ => trivial
  | t :: ts, w, h => ⟨sub_wf m t w.1 fun n hn => h n (List.mem_append.mpr (.inl hn)), subs_wf m ts w.2 fun n hn => h n (List.mem_append.mpr (.inr hn))⟩
end
theorem at_wf {fs : List Str} {B : Int} : ∀ (q : List Int) (t c : Tm), at? q t = some c → t.wf fs B → c.wf fs B
  | [], t, c, h, w => by cases (show some t = some c from h); exact w
  | k :: q, .var _, _, h, _ => nomatch h
  | k :: q, .app f ts, c, h, w => by
    rw [at_cons_app] at h
    by_cases h1 : 1 ≤ k
    · rw [if_pos h1] at h
      cases ht : ts[(k - 1).toNat]? with
      | none => rw [ht] at h; cases h
      | some t =>
        rw [ht] at h
        exact at_wf q t c h (Tm.wf_of_mem w.2 (List.mem_of_getElem? ht))
    · rw [if_neg h1] at h; cases h
theorem at_occ : ∀ (q : List Int) (t c : Tm), at? q t = some c → ∀ n ∈ occ c, n ∈ occ t
  | [], t, c, h, n, hn => by cases (show some t = some c from h); exact hn
  | k :: q, .var _, _, h, _, _ => nomatch h
  | k :: q, .app f ts, c, h, n, hn => by
    rw [at_cons_app] at h
    by_cases h1 : 1 ≤ k
    · rw [if_pos h1] at h
      cases ht : ts[(k - 1).toNat]? with
      | none => rw [ht] at h; cases h
      | some t =>
        rw [ht] at h
        exact occs_mem.mpr ⟨t, List.mem_of_getElem? ht, at_occ q t c h n hn⟩
    · rw [if_neg h1] at h; cases h
theorem at_len : ∀ (q : List Int) (t c : Tm), at? q t = some c → q.length + c.dep ≤ t.dep
  | [], t, c, h => by cases (show some t = some c from h); show 0 + t.dep ≤ t.dep; omega
  | k :: q, .var _, _, h => nomatch h
  | k :: q, .app f ts, c, h => by
    rw [at_cons_app] at h
    by_cases h1 : 1 ≤ k
    · rw [if_pos h1] at h
      cases ht : ts[(k - 1).toNat]? with
      | none => rw [ht] at h; cases h
      | some t =>
        rw [ht] at h
        have ih := at_len q t c h
        have := Tm.dep_of_mem (List.mem_of_getElem? ht)
        show q.length + 1 + c.dep ≤ 1 + Tm.deps ts
        omega
    · rw [if_neg h1] at h; cases h
theorem szs_set : ∀ (l : List Tm) (j : Nat) (x y : Tm), l[j]? = some y → Tm.szs (l.set j x) + y.sz = Tm.szs l + x.sz
  | [], j, x, y, h => by simp at h
  | a :: r, 0, x, y, h => by
    have h : a = y := by simpa using h
    subst h
    show x.sz + Tm.szs r + a.sz = a.sz + Tm.szs r + x.sz
    omega
  | a :: r, j + 1, x, y, h => by
    have := szs_set r j x y (by simpa using h)
    show a.sz + Tm.szs (r.set j x) + y.sz = a.sz + Tm.szs r + x.sz
    omega
/-- what goes and what comes -/
theorem rep_sz (u : Tm) : ∀ (q : List Int) (t c : Tm), at? q t = some c → (rep u q t).sz + c.sz = t.sz + u.sz
  | [], t, c, h => by cases (show some t = some c from h); show u.sz + t.sz = t.sz + u.sz; omega
  | k :: q, .var _, _, h => nomatch h
  | k :: q, .app f ts, c, h => by
    rw [at_cons_app] at h
    by_cases h1 : 1 ≤ k
    · rw [if_pos h1] at h
      cases ht : ts[(k - 1).toNat]? with
      | none => rw [ht] at h; cases h
      | some t =>
        rw [ht] at h
        have ih := rep_sz u q t c h
        have e : ts.getD (k - 1).toNat u = t := by rw [List.getD_eq_getElem?_getD, ht]; rfl
        have := szs_set ts (k - 1).toNat (rep u q t) t ht
        show 1 + Tm.szs (ts.set (k - 1).toNat (rep u q (ts.getD (k - 1).toNat u))) + c.sz = 1 + Tm.szs ts + u.sz
        rw [e]
        omega
    · rw [if_neg h1] at h; cases h
/-- the variables of a term in which something was put -/
theorem occ_rep (u : Tm) : ∀ (q : List Int) (t : Tm), IsPos q t → ∀ n, n ∈ occ (rep u q t) → n ∈ occ t ∨ n ∈ occ u
  | [], _, _, _, h => .inr h
  | k :: q, .var _, h, _, _ => h.elim
  | k :: q, .app f ts, ⟨h1, t, ht, hp⟩, n, hn => by
    have e : ts.getD (k - 1).toNat u = t := by rw [List.getD_eq_getElem?_getD, ht]; rfl
    have hn : n ∈ occs (ts.set (k - 1).toNat (rep u q (ts.getD (k - 1).toNat u))) := hn
    rw [e] at hn
    obtain ⟨w, hw, hn⟩ := occs_mem.mp hn
    rcases List.mem_or_eq_of_mem_set hw with z | z
    · exact .inl (occs_mem.mpr ⟨w, z, hn⟩)
    · rw [z] at hn
      rcases occ_rep u q t hp n hn with z | z
      · exact .inl (occs_mem.mpr ⟨t, List.mem_of_getElem? ht, z⟩)
      · exact .inr z
theorem occ_rep_in (u : Tm) : ∀ (q : List Int) (t : Tm), IsPos q t → ∀ n ∈ occ u, n ∈ occ (rep u q t)
  | [], _, _, _, h => h
  | k :: q, .var _, h, _, _ => h.elim
  | k :: q, .app f ts, ⟨h1, t, ht, hp⟩, n, hn => by
    have hk := (List.getElem?_eq_some_iff.mp ht).1
    have e : ts.getD (k - 1).toNat u = t := by rw [List.getD_eq_getElem?_getD, ht]; rfl
    show n ∈ occs (ts.set (k - 1).toNat (rep u q (ts.getD (k - 1).toNat u)))
    rw [e]
    exact occs_mem.mpr ⟨_, List.mem_set hk _, occ_rep_in u q t hp n hn⟩
/-- a place stays a place -/
theorem isPos_sub (m : Int → Option Tm) : ∀ (q : List Int) (t : Tm), IsPos q t → IsPos q (sub m t)
  | [], _, _ => trivial
  | k :: q, .var _, h => h.elim
  | k :: q, .app f ts, ⟨h1, t, ht, hp⟩ => ⟨h1, sub m t, by rw [subs_map, List.getElem?_map, ht]; rfl, isPos_sub m q t hp⟩
theorem sub_rep_out (m : Int → Option Tm) (u : Tm) : ∀ (q : List Int) (t : Tm), IsPos q t → sub m (rep u q t) = rep (sub m u) q (sub m t)
  | [], _, _ => rfl
  | k :: q, .var _, h => h.elim
  | k :: q, .app f ts, ⟨h1, t, ht, hp⟩ => by
    have e : ts.getD (k - 1).toNat u = t := by rw [List.getD_eq_getElem?_getD, ht]; rfl
    have e2 : (subs m ts).getD (k - 1).toNat (sub m u) = sub m t := by rw [List.getD_eq_getElem?_getD, subs_map, List.getElem?_map, ht]; rfl
    show Tm.app f (subs m (ts.set (k - 1).toNat (rep u q (ts.getD (k - 1).toNat u)))) = Tm.app f ((subs m ts).set (k - 1).toNat (rep (sub m u) q ((subs m ts).getD (k - 1).toNat (sub m u))))
    rw [e, e2, subs_map, List.map_set, sub_rep_out m u q t hp, ← subs_map]
/-- xs[-1] -/
theorem at_neg1 {xs : List V} {v : V} (h : xs[xs.length - 1]? = some v) : atI xs (0 - 1) = some v := by
  have hn : xs ≠ [] := fun z => by rw [z] at h; simp at h
  have h1 := List.dropLast_concat_getLast hn
  have h2 : xs.getLast hn = v := by rw [List.getLast_eq_getElem]; exact (List.getElem?_eq_some_iff.mp h).2
  rw [← h1, h2]; exact atI_last _ _
theorem pos_ints : ∀ (q : List Int) (t : Tm), IsPos q t → ∀ k ∈ q, 1 ≤ k ∧ k ≤ (t.sz : Int)
  | [], _, _, k, hk => nomatch hk
  | _ :: _, .var _, h, _, _ => h.elim
  | j :: q, .app f ts, ⟨h1, t, ht, hp⟩, k, hk => by
    have hl := (List.getElem?_eq_some_iff.mp ht).1
    have := Tm.len_le ts
    have h3 := Tm.sz_arg (List.mem_of_getElem? ht)
    show 1 ≤ k ∧ k ≤ ((1 + Tm.szs ts : Nat) : Int)
    rcases List.mem_cons.mp hk with e | hk
    · subst e; omega
    · have := pos_ints q t hp k hk
      omega
/-! lists without a number twice -/
theorem nd_below : ∀ (B : Nat) (l : List Int), l.Nodup → (∀ x ∈ l, 0 ≤ x ∧ x < (B : Int)) → l.length ≤ B
  | 0, [], _, _ => Nat.le_refl _
  | 0, x :: _, _, h => by have := h x (List.mem_cons_self ..); omega
  | B + 1, l, nd, h => by
    have h1 : ((l.erase (B : Int)).length) ≤ B := nd_below B _ (nd.erase _) fun x hx => by
      have h2 := h x (List.mem_of_mem_erase hx)
      have h3 : x ≠ (B : Int) := fun e => by rw [e] at hx; exact nd.not_mem_erase hx
      omega
    have h2 := List.length_erase (a := (B : Int)) (l := l)
    by_cases z : (B : Int) ∈ l
    · rw [if_pos z] at h2; omega
    · rw [if_neg z] at h2; omega
theorem nd_same {l1 l2 : List Int} (h1 : l1.Nodup) (h2 : l2.Nodup) (h : ∀ x, x ∈ l1 ↔ x ∈ l2) : l1.length = l2.length := ((List.perm_ext_iff_of_nodup h1 h2).mpr h).length_eq
/-! tables -/
theorem look_app : ∀ (a b : List (Int × Tm)) (n : Int), look (a ++ b) n = (look a n).or (look b n)
  | [], _, _ => rfl
  | x :: a, b, n => by
    show (if x.1 = n then some x.2 else look (a ++ b) n) = (if x.1 = n then some x.2 else look a n).or (look b n)
    by_cases e : x.1 = n
    · rw [if_pos e, if_pos e]; rfl
    · rw [if_neg e, if_neg e]; exact look_app a b n
theorem look_some {tb : List (Int × Tm)} {n : Int} : look tb n ≠ none ↔ n ∈ tb.map (·.1) := by
  induction tb with
  | nil => exact ⟨fun h => absurd rfl h, fun h => nomatch h⟩
  | cons x l ih =>
    show (if x.1 = n then some x.2 else look l n) ≠ none ↔ n ∈ x.1 :: l.map (·.1)
    by_cases e : x.1 = n
    · rw [if_pos e]; exact ⟨fun _ => by rw [e]; exact List.mem_cons_self .., fun _ z => nomatch z⟩
    · rw [if_neg e, ih, List.mem_cons]
      exact ⟨.inr, fun z => z.elim (fun z => absurd z.symm e) id⟩
theorem look_ids {l : List Int} {n : Int} (h : n ∈ l) : look (l.map fun n => (n, Tm.var n)) n = some (.var n) := by
  induction l with
  | nil => cases h
  | cons a r ih =>
    show (if a = n then some (Tm.var a) else look (r.map fun n => (n, Tm.var n)) n) = _
    by_cases e : a = n
    · rw [if_pos e, e]
    · rw [if_neg e]; exact ih ((List.mem_cons.mp h).elim (fun z => absurd z.symm e) id)
/-- a step of the document: the equation L = R with the values tb, at q, leads from t to t' -/
structure Stp (fs : List Str) (t t' : Tm) (fwd : Bool) (q : List Int) (tb : List (Int × Tm)) (L R : Tm) : Prop where
  hat : at? q t = some (sub (look tb) (if fwd then L else R))
  res : t' = rep (sub (look tb) (if fwd then R else L)) q t
  len : tb.length = (adds (vars L) (vars R)).length
  has : ∀ n ∈ adds (vars L) (vars R), look tb n ≠ none
  few : tb.length ≤ 10
  nd : (tb.map (·.1)).Nodup
  wl : L.wf fs 10
  wr : R.wf fs 10
  wt : ∀ x ∈ tb, (0 ≤ x.1 ∧ x.1 < 10) ∧ x.2.wf fs 9 ∧ x.2.sz ≤ t.sz + 4 ∧ x.2.dep ≤ t.dep + 2
  zl : L.sz ≤ t.sz + 5 ∧ L.dep ≤ t.dep + 2
  zr : R.sz ≤ t.sz + 5 ∧ R.dep ≤ t.dep + 2
  w' : t'.wf fs 9
  z' : t'.sz ≤ t.sz + 16
  d' : t'.dep ≤ t.dep + 4
  zu : (sub (look tb) (if fwd then R else L)).sz ≤ t.sz + 16
/-- the table of a drawn step: what the law puts into it -/
theorem stp_of {fs : List Str} {t c0 c N N1 : Tm} {q q1 : List Int} {tb : List (Int × Tm)} {l : List (Int × Tm)} (wt : t.wf fs 9) (hq : at? q t = some c0) (hc : at? q1 c0 = some c)
    (htb : tb = (9, c) :: ((vars (rep (.var 9) q1 c0)).filter (· ≠ 9)).map (fun n => (n, Tm.var n)) ++ l) (nd : (tb.map (·.1)).Nodup) (hl : ∀ x ∈ l, x.1 ∈ vars N1 ∧ x.2.wf fs 9 ∧ x.2.sz ≤ 4 ∧ x.2.dep ≤ 2) (hN1 : ∀ n ∈ vars N1, n ∈ tb.map (·.1))
    (wN : N.wf fs 9) (zN : N.sz ≤ 4) (dN : N.dep ≤ 2) (hN : N1 = N ∨ ∃ q2, IsPos q2 N ∧ N1 = rep (.var 9) q2 N) (fwd : Bool) {L R : Tm} (eL : (if fwd then L else R) = rep (.var 9) q1 c0) (eR : (if fwd then R else L) = N1) :
    Stp fs t (rep (sub (look tb) N1) q t) fwd q tb L R := by
  have ip1 : IsPos q1 c0 := (isPos_at q1 c0).mpr ⟨c, hc⟩
  have ip : IsPos q t := (isPos_at q t).mpr ⟨c0, hq⟩
  have zc := at_sz _ _ _ hc
  have z0 := at_sz _ _ _ hq
  have l0 := at_len _ _ _ hq
  have l1 := at_len _ _ _ hc
  have w0 := at_wf _ _ _ hq wt
  have wc := at_wf _ _ _ hc w0
  have cp := c.dep_pos
  have c0p := c0.dep_pos
  have tp := t.dep_pos
  have cz := c.sz_pos
  have one : (Tm.var 9).sz = 1 := rfl
  have one' : (Tm.var 9).dep = 1 := rfl
  have w9 : (Tm.var 9).wf fs 10 := ⟨by decide, by decide⟩
  -- the old side
  have wO : (rep (.var 9) q1 c0).wf fs 10 := rep_wf w9 q1 c0 (w0.mono (by decide)) ip1
  have zO := rep_sz (.var 9) q1 c0 c hc
  have dO := (rep_dep (.var 9) q1 c0 ip1).1
  have o9 : (9 : Int) ∉ occ c0 := fun z => by have := (occ_wf c0 w0 9 z).2; omega
  have in9 : (9 : Int) ∈ occ (rep (.var 9) q1 c0) := occ_rep_in (.var 9) q1 c0 ip1 9 (List.mem_singleton.mpr rfl)
  have lk9 : look tb 9 = some c := by rw [htb]; rfl
  have lkO : ∀ n ∈ occ (rep (.var 9) q1 c0), n ≠ 9 → look tb n = some (.var n) := fun n hn ne => by
    rw [htb, look_app]
    have e : look ((9, c) :: ((vars (rep (.var 9) q1 c0)).filter (· ≠ 9)).map (fun n => (n, Tm.var n))) n = some (.var n) := by
      show (if (9 : Int) = n then some c else look (((vars (rep (.var 9) q1 c0)).filter (· ≠ 9)).map (fun n => (n, Tm.var n))) n) = _
      rw [if_neg (fun z => ne z.symm)]
      exact look_ids (List.mem_filter.mpr ⟨(vars_mem _ _).mpr hn, by simpa using ne⟩)
    rw [e]; rfl
  have sO : sub (look tb) (rep (.var 9) q1 c0) = c0 := sub_rep (look tb) (by rw [lk9]; rfl) q1 c0 hc o9 fun n hn ne => by rw [lkO n hn ne]; rfl
  -- the values
  have vals : ∀ x ∈ tb, (x.1 = 9 ∧ x.2 = c) ∨ (x.1 ≠ 9 ∧ x.1 ∈ vars (rep (.var 9) q1 c0) ∧ x.2 = .var x.1) ∨ x ∈ l := fun x hx => by
    rw [htb] at hx
    rcases List.mem_append.mp hx with h | h
    · rcases List.mem_cons.mp h with h | h
      · rw [h]; exact .inl ⟨rfl, rfl⟩
      · obtain ⟨n, hn, rfl⟩ := List.mem_map.mp h
        obtain ⟨h1, h2⟩ := List.mem_filter.mp hn
        exact .inr (.inl ⟨by simpa using h2, h1, rfl⟩)
    · exact .inr (.inr h)
  have wO9 : ∀ n ∈ occ (rep (.var 9) q1 c0), n ≠ 9 → 0 ≤ n ∧ n < 9 := fun n hn ne => by
    rcases occ_rep (.var 9) q1 c0 ip1 n hn with z | z
    · exact occ_wf c0 w0 n z
    · exact absurd (List.mem_singleton.mp z) ne
  have wN1 : N1.wf fs 10 := by
    rcases hN with e | ⟨q2, ip2, e⟩
    · rw [e]; exact wN.mono (by decide)
    · rw [e]; exact rep_wf w9 q2 N (wN.mono (by decide)) ip2
  have wvals : ∀ x ∈ tb, (0 ≤ x.1 ∧ x.1 < 10) ∧ x.2.wf fs 9 ∧ x.2.sz ≤ t.sz + 4 ∧ x.2.dep ≤ t.dep + 2 := fun x hx => by
    rcases vals x hx with ⟨h1, h2⟩ | ⟨h1, h2, h3⟩ | h
    · rw [h1, h2]; exact ⟨by decide, wc, by omega, by omega⟩
    · have := wO9 x.1 ((vars_mem _ _).mp h2) h1
      have e1 : x.2.sz = 1 := by rw [h3]; rfl
      have e2 : x.2.dep = 1 := by rw [h3]; rfl
      have e3 : x.2.wf fs 9 := by rw [h3]; exact this
      exact ⟨by omega, e3, by omega, by omega⟩
    · obtain ⟨h1, h2, h3, h4⟩ := hl x h
      have := occ_wf N1 wN1 x.1 ((vars_mem _ _).mp h1)
      exact ⟨this, h2, by omega, by omega⟩
  have low : ∀ n, n ≠ 9 → ((look tb n).getD (.var n)).sz ≤ 4 ∧ ((look tb n).getD (.var n)).dep ≤ 1 + 1 := fun n ne => by
    cases e : look tb n with
    | none => exact ⟨by show 1 ≤ 4; decide, by show 1 ≤ 2; decide⟩
    | some u =>
      have h := vals _ (look_mem e)
      rcases h with ⟨h1, _⟩ | ⟨_, _, h3⟩ | h
      · exact absurd h1 ne
      · have h3 : u = .var n := h3
        rw [h3]; exact ⟨by show 1 ≤ 4; decide, by show 1 ≤ 2; decide⟩
      · exact ⟨(hl _ h).2.2.1, (hl _ h).2.2.2⟩
  have nN : ∀ n ∈ occ N, n ≠ 9 := fun n hn z => by have := (occ_wf N wN n hn).2; omega
  have sN := sub_szM (look tb) 4 1 (by decide) N fun n hn => low n (nN n hn)
  have wfv : ∀ n, n ∈ tb.map (·.1) → ((look tb n).getD (.var n)).wf fs 9 := fun n hn => by
    cases e : look tb n with
    | none => exact absurd e (look_some.mpr hn)
    | some u => exact (wvals _ (look_mem e)).2.1
  have wU : (sub (look tb) N1).wf fs 9 := sub_wf (look tb) N1 wN1 fun n hn => wfv n (hN1 n ((vars_mem _ _).mpr hn))
  have zU : (sub (look tb) N1).sz ≤ c.sz + 16 ∧ (sub (look tb) N1).dep ≤ max 3 (1 + c.dep) := by
    rcases hN with e | ⟨q2, ip2, e⟩
    · rw [e]; omega
    · obtain ⟨u2, hu2⟩ := (isPos_at q2 N).mp ip2
      have l2 := at_len _ _ _ hu2
      have p2 := u2.dep_pos
      have e1 : sub (look tb) (.var 9) = c := by show (look tb 9).getD (.var 9) = c; rw [lk9]; rfl
      rw [e, sub_rep_out (look tb) (.var 9) q2 N ip2, e1]
      have := rep_dep c q2 (sub (look tb) N) (isPos_sub (look tb) q2 N ip2)
      omega
  have zN1 : N1.sz ≤ 5 ∧ N1.dep ≤ 2 := by
    rcases hN with e | ⟨q2, ip2, e⟩
    · rw [e]; omega
    · obtain ⟨u2, hu2⟩ := (isPos_at q2 N).mp ip2
      have l2 := at_len _ _ _ hu2
      have p2 := u2.dep_pos
      have := rep_dep (.var 9) q2 N ip2
      rw [e]; omega
  have rz := rep_sz (sub (look tb) N1) q t c0 hq
  have rd := (rep_dep (sub (look tb) N1) q t ip).1
  have keys : ∀ n, n ∈ tb.map (·.1) ↔ n ∈ occ (rep (.var 9) q1 c0) ∨ n ∈ occ N1 := fun n => by
    constructor
    · intro h
      obtain ⟨x, hx, rfl⟩ := List.mem_map.mp h
      rcases vals x hx with ⟨h1, _⟩ | ⟨_, h2, _⟩ | h
      · rw [h1]; exact .inl in9
      · exact .inl ((vars_mem _ _).mp h2)
      · exact .inr ((vars_mem _ _).mp (hl x h).1)
    · rintro (h | h)
      · by_cases ne : n = 9
        · rw [ne]; exact look_some.mp (by rw [lk9]; exact fun z => nomatch z)
        · exact look_some.mp (by rw [lkO n h ne]; exact fun z => nomatch z)
      · exact hN1 n ((vars_mem _ _).mpr h)
  have memLR : ∀ n, n ∈ adds (vars L) (vars R) ↔ n ∈ tb.map (·.1) := fun n => by
    rw [adds_mem, vars_mem, vars_mem, keys]
    cases fwd
    · rw [← show R = rep (.var 9) q1 c0 from eL, ← show L = N1 from eR]; exact Or.comm
    · rw [← show L = rep (.var 9) q1 c0 from eL, ← show R = N1 from eR]
  have ln : tb.length = (adds (vars L) (vars R)).length := by
    rw [← List.length_map (f := fun x : Int × Tm => x.1)]
    exact nd_same nd (adds_nodup _ _ (adds_nodup _ _ List.nodup_nil)) fun n => (memLR n).symm
  have fw : tb.length ≤ 10 := by
    rw [← List.length_map (f := fun x : Int × Tm => x.1)]
    refine nd_below 10 _ nd fun n hn => ?_
    obtain ⟨x, hx, rfl⟩ := List.mem_map.mp hn
    exact (wvals x hx).1
  have two : (L.wf fs 10 ∧ L.sz ≤ t.sz + 5 ∧ L.dep ≤ t.dep + 2) ∧ (R.wf fs 10 ∧ R.sz ≤ t.sz + 5 ∧ R.dep ≤ t.dep + 2) := by
    have hO : (rep (.var 9) q1 c0).wf fs 10 ∧ (rep (.var 9) q1 c0).sz ≤ t.sz + 5 ∧ (rep (.var 9) q1 c0).dep ≤ t.dep + 2 := ⟨wO, by omega, by omega⟩
    have hN : N1.wf fs 10 ∧ N1.sz ≤ t.sz + 5 ∧ N1.dep ≤ t.dep + 2 := ⟨wN1, by omega, by omega⟩
    cases fwd
    · rw [show R = rep (.var 9) q1 c0 from eL, show L = N1 from eR]; exact ⟨hN, hO⟩
    · rw [show L = rep (.var 9) q1 c0 from eL, show R = N1 from eR]; exact ⟨hO, hN⟩
  refine { hat := by rw [eL, sO]; exact hq, res := by rw [eR], len := ln, has := fun n hn => look_some.mpr ((memLR n).mp hn), few := fw, nd := nd, wl := two.1.1, wr := two.2.1, wt := wvals, zl := two.1.2, zr := two.2.2, w' := rep_wf wU q t wt ip, z' := by omega, d' := by omega, zu := by rw [eR]; omega }
end J

/-! ### steps in the heap, chains of them, repr of lists of steps, dict(d) -/
namespace J
open PySem PySem.Spec PyProof.Rows L2
/-- a step of the document -/
structure Stq where
  kd : Str
  k : Int
  fwd : Bool
  q : List Int
  tb : List (Int × Tm)
/-- the same step in the other direction -/
def Stq.rev (x : Stq) : Stq := { x with fwd := !x.fwd }
/-- the step x stands in H as the value w -/
def StqIn (H : Hp) (w : V) (x : Stq) : Prop := ∃ (a src pa bd : Addr) (kvs : List (Key × V)), w = .ref a ∧ H a = some (.tup [.ref src, .bl x.fwd, .ref pa, .ref bd]) ∧ H src = some (.tup [.str x.kd, .int x.k]) ∧ H pa = some (.tup (x.q.map V.int)) ∧ H bd = some (.dK kvs) ∧ TbIn H kvs x.tb
def StsIn (H : Hp) : List V → List Stq → Prop
  | [], [] => True
  | w :: ws, x :: xs => StqIn H w x ∧ StsIn H ws xs
  | _, _ => False
/-- tuples and dicts stay -/
structure Td (H H' : Hp) : Prop where
  t : Tu H H'
  d : ∀ a kvs, H a = some (.dK kvs) → H' a = some (.dK kvs)
theorem td_same {H H' : Hp} (s : Same H H') : Td H H' := ⟨tu_same s, fun a _ h => s a _ h⟩
theorem Td.trans {H H1 H2 : Hp} (a : Td H H1) (b : Td H1 H2) : Td H H2 := ⟨a.t.trans b.t, fun x k h => b.d x k (a.d x k h)⟩
theorem Td.refl (H : Hp) : Td H H := ⟨Tu.refl H, fun _ _ h => h⟩
/-- what happens to lists alone -/
theorem td_but {H H' : Hp} {p : Addr} {xs : List V} (b : But p H H') (h : H p = some (.lst xs)) : Td H H' :=
  ⟨but_tu b (lst_not_tup h), fun a k e => b a _ e fun z => by rw [z, h] at e; cases e⟩
theorem St.td {H H' : Hp} {s l : Addr} (h : St H s l) (b : But s H H') : Td H H' := by
  obtain ⟨_, _, _, q⟩ := h.lst
  exact td_but b q
theorem StqIn.td {H H' : Hp} {w : V} {x : Stq} (h : StqIn H w x) (t : Td H H') : StqIn H' w x := by
  obtain ⟨a, src, pa, bd, kvs, e, h1, h2, h3, h4, h5⟩ := h
  exact ⟨a, src, pa, bd, kvs, e, t.t _ _ h1, t.t _ _ h2, t.t _ _ h3, t.d _ _ h4, h5.tu t.t⟩
theorem StsIn.td {H H' : Hp} (t : Td H H') : ∀ {ws : List V} {xs : List Stq}, StsIn H ws xs → StsIn H' ws xs
  | [], [], _ => trivial
  | [], _ :: _, h => h.elim
  | _ :: _, [], h => h.elim
  | _ :: _, _ :: _, h => ⟨h.1.td t, StsIn.td t h.2⟩
theorem StsIn.snoc {H : Hp} {w : V} {x : Stq} (hw : StqIn H w x) : ∀ {ws : List V} {xs : List Stq}, StsIn H ws xs → StsIn H (ws ++ [w]) (xs ++ [x])
  | [], [], _ => ⟨hw, trivial⟩
  | [], _ :: _, h => h.elim
  | _ :: _, [], h => h.elim
  | _ :: _, _ :: _, h => ⟨h.1, StsIn.snoc hw h.2⟩
theorem StsIn.length {H : Hp} : ∀ {ws : List V} {xs : List Stq}, StsIn H ws xs → ws.length = xs.length
  | [], [], _ => rfl
  | [], _ :: _, h => h.elim
  | _ :: _, [], h => h.elim
  | _ :: _, _ :: _, h => congrArg (· + 1) (StsIn.length h.2)
theorem StsIn.get {H : Hp} : ∀ {ws : List V} {xs : List Stq} {i : Nat} {w : V}, StsIn H ws xs → ws[i]? = some w → ∃ x, xs[i]? = some x ∧ StqIn H w x
  | [], _, i, w, _, e => by simp at e
  | _ :: _, [], _, _, h, _ => h.elim
  | v :: ws, x :: xs, 0, w, h, e => ⟨x, rfl, (show v = w by simpa using e) ▸ h.1⟩
  | v :: ws, x :: xs, i + 1, w, h, e => by
    obtain ⟨y, h1, h2⟩ := StsIn.get h.2 (i := i) (w := w) (by simpa using e)
    exact ⟨y, by simpa using h1, h2⟩
theorem StsIn.of_get {H : Hp} : ∀ {ws : List V} {xs : List Stq}, ws.length = xs.length → (∀ (i : Nat) w x, ws[i]? = some w → xs[i]? = some x → StqIn H w x) → StsIn H ws xs
  | [], [], _, _ => trivial
  | [], _ :: _, h, _ => nomatch h
  | _ :: _, [], h, _ => nomatch h
  | _ :: _, _ :: _, h, f => ⟨f 0 _ _ rfl rfl, StsIn.of_get (Nat.succ.inj h) fun i w x e1 e2 => f (i + 1) w x e1 e2⟩
theorem StsIn.rev {H : Hp} : ∀ {ws : List V} {xs : List Stq}, StsIn H ws xs → StsIn H ws.reverse xs.reverse
  | [], [], _ => trivial
  | [], _ :: _, h => h.elim
  | _ :: _, [], h => h.elim
  | _ :: _, _ :: _, h => by rw [List.reverse_cons, List.reverse_cons]; exact (StsIn.rev h.2).snoc h.1
/-! ### the data that repr shows -/
def stqD (x : Stq) : PyData := .tuple [.tuple [.str x.kd, .int x.k], .bool x.fwd, .tuple (x.q.map PyData.int), tbD x.tb]
def stsD (xs : List Stq) : PyData := .list (xs.map stqD)
theorem ReadsAll.app1 {h : Heap} {v : Value} {d : PyData} {as : List Addr} (r : Reads h v d as) : ReadsAll h [v] [d] (as ++ []) := .cons r .nil
section
variable {X : Cx} {pins : List (Addr × Obj)} {σ : L2.St} {H : Hp} {s : Shared}
theorem ints_reads (h : Heap) : ∀ (l : List Int) (us : List Value), Vals (l.map V.int) us → ReadsAll h us (l.map PyData.int) []
  | [], us, r => by cases r; exact ReadsAll.nil
  | n :: l, us, r => by
    cases r with
    | cons r1 rr =>
      obtain ⟨t, rfl⟩ := r1
      exact ReadsAll.cons (as := []) (Reads.int n t) (ints_reads h l _ rr)
theorem stq_reads (I : Inv X pins σ H s) {w : V} {x : Stq} {u : Value} (h : StqIn H w x) (r : RelV w u) : ∃ as, Reads s.heap u (stqD x) as ∧ sysModules ∉ as := by
  obtain ⟨a, src, pa, bd, kvs, rfl, ha, hs, hp, hb, ht⟩ := h
  cases (show u = .ref a from r)
  obtain ⟨its, rv, ⟨o, e, hc, n, hd⟩, _⟩ := I.tuple (SqT.of ha)
  obtain ⟨its2, rv2, ⟨o2, e2, hc2, n2, hd2⟩, _⟩ := I.tuple (SqT.of hs)
  obtain ⟨its3, rv3, ⟨o3, e3, hc3, n3, hd3⟩, _⟩ := I.tuple (SqT.of hp)
  obtain ⟨_, hS, vs, k, o4, es, ep, e4, ⟨hc4, _, _⟩, hd4, _, pr, _⟩ := dk_of I.hok hb
  have rd : Reads s.heap (.ref bd) (tbD x.tb) (bd :: [] ++ []) := Reads.dict e4 hc4 hd4 (tb_keys s.heap ht k pr) (tb_vals I ht k pr)
  have rs : Reads s.heap (.ref src) (.tuple [.str x.kd, .int x.k]) [] := Reads.tuple e2 hc2 hd2 (by
    cases rv2 with
    | cons r1 rr =>
      cases rr with
      | cons r2 rr =>
        cases rr
        obtain ⟨tk, rfl⟩ := r1
        obtain ⟨t, rfl⟩ := r2
        exact ReadsAll.cons (as := []) (Reads.str x.kd tk) (ReadsAll.cons (as := []) (Reads.int x.k t) ReadsAll.nil))
  have rp : Reads s.heap (.ref pa) (.tuple (x.q.map PyData.int)) [] := Reads.tuple e3 hc3 hd3 (ints_reads _ _ _ rv3)
  refine ⟨[] ++ ([] ++ ([] ++ ((bd :: [] ++ []) ++ []))), Reads.tuple e hc hd ?_, fun z => ?_⟩
  · cases rv with
    | cons r1 rr =>
      cases rr with
      | cons r2 rr =>
        cases rr with
        | cons r3 rr =>
          cases rr with
          | cons r4 rr =>
            cases rr
            cases r1; cases r2; cases r3; cases r4
            exact ReadsAll.cons rs (ReadsAll.cons (Reads.bool x.fwd) (ReadsAll.cons rp (ReadsAll.cons rd ReadsAll.nil)))
  · have z : sysModules ∈ [bd] := by simpa using z
    rw [List.mem_singleton.mp z, beq_self_eq_true] at hS
    cases hS
theorem sts_reads (I : Inv X pins σ H s) : ∀ {ws : List V} {xs : List Stq} {us : List Value}, StsIn H ws xs → Vals ws us → ∃ as, ReadsAll s.heap us (xs.map stqD) as ∧ sysModules ∉ as
  | [], [], _, _, r => by cases r; exact ⟨_, ReadsAll.nil, List.not_mem_nil⟩
  | [], _ :: _, _, h, _ => h.elim
  | _ :: _, [], _, h, _ => h.elim
  | w :: ws, x :: xs, _, h, r => by
    cases r with
    | cons r1 rr =>
      obtain ⟨as, h1, n1⟩ := stq_reads I h.1 r1
      obtain ⟨bs, h2, n2⟩ := sts_reads I h.2 rr
      exact ⟨_, ReadsAll.cons h1 h2, fun z => (List.mem_append.mp z).elim n1 n2⟩
/-- what is known of a step that may be shown -/
structure StqOk (fs : List Str) (B : Int) (x : Stq) : Prop where
  k : x.k.natAbs < 10000
  kd : x.kd.length ≤ 10
  kc : ∀ c ∈ x.kd.cps.toList, c < 16 ^ 8
  ql : x.q.length ≤ 60
  qi : ∀ n ∈ x.q, n.natAbs < 10000
  tl : x.tb.length ≤ 10
  nd : (x.tb.map (·.1)).Nodup
  tb : ∀ y ∈ x.tb, y.1.natAbs < 10000 ∧ y.2.wf fs B ∧ y.2.sz ≤ 1000 ∧ y.2.dep ≤ 50
theorem stqD_shw {fs : List Str} {B : Int} (hn : Names fs) (hB : B ≤ 1000) {x : Stq} (o : StqOk fs B x) : (stqD x).showable = true ∧ (stqD x).depth ≤ 52 ∧ (stqD x).shown.length ≤ 905000 := by
  obtain ⟨a1, a2, a3, a4⟩ := tbD_shw hn hB x.tb o.tb
  have h1 := shw_str (x := x.kd) o.kc
  have h2 := shw_int (i := x.k) (Nat.lt_trans o.k (by decide))
  have hs : Shw 1 1000 (.tuple [.str x.kd, .int x.k]) := (shw_tuple (D := 0) (B := 102) fun d hd => by
    rcases List.mem_cons.mp hd with e | hd
    · rw [e]; exact h1.mono (Nat.le_refl _) (by have := o.kd; omega)
    · rw [List.mem_singleton.mp hd]; exact h2.mono (Nat.le_refl _) (by decide)).mono (Nat.le_refl _) (by show (102 + 2) * 2 + 3 ≤ 1000; decide)
  have hp : Shw 1 1000 (.tuple (x.q.map PyData.int)) := (shw_tuple (D := 0) (B := 13) fun d hd => by
    obtain ⟨n, hn, rfl⟩ := List.mem_map.mp hd
    exact shw_int (Nat.lt_trans (o.qi n hn) (by decide))).mono (Nat.le_refl _) (by rw [List.length_map]; have := o.ql; omega)
  have hd : (tbD x.tb).showable = true ∧ (tbD x.tb).depth ≤ 51 ∧ (tbD x.tb).shown.length ≤ 902000 := by
    refine ⟨a1, Nat.succ_le_succ a2, Nat.le_trans (dictText_len_le _) ?_⟩
    rw [a4]
    have := o.tl
    omega
  have hbl : (PyData.bool x.fwd).showable = true ∧ (PyData.bool x.fwd).depth = 0 ∧ (PyData.bool x.fwd).shown.length ≤ 10 := by
    cases x.fwd <;> exact ⟨rfl, rfl, by decide +kernel⟩
  refine ⟨?_, ?_, ?_⟩
  · show ((PyData.tuple [.str x.kd, .int x.k]).showable && ((PyData.bool x.fwd).showable && ((PyData.tuple (x.q.map PyData.int)).showable && ((tbD x.tb).showable && true)))) = true
    rw [hs.sh, hbl.1, hp.sh, hd.1]; rfl
  · show max (PyData.tuple [.str x.kd, .int x.k]).depth (max (PyData.bool x.fwd).depth (max (PyData.tuple (x.q.map PyData.int)).depth (max (tbD x.tb).depth 0))) + 1 ≤ 52
    have := hs.dp; have := hp.dp; have := hd.2.1; have := hbl.2.1
    omega
  · have h3 := tupleText_len_le (PyData.shownAll [.tuple [.str x.kd, .int x.k], .bool x.fwd, .tuple (x.q.map PyData.int), tbD x.tb])
    have e1 : ((PyData.shownAll [.tuple [.str x.kd, .int x.k], .bool x.fwd, .tuple (x.q.map PyData.int), tbD x.tb]).map (·.length)).sum = (PyData.tuple [.str x.kd, .int x.k]).shown.length + ((PyData.bool x.fwd).shown.length + ((PyData.tuple (x.q.map PyData.int)).shown.length + ((tbD x.tb).shown.length + 0))) := rfl
    have e2 : (PyData.shownAll [.tuple [.str x.kd, .int x.k], .bool x.fwd, .tuple (x.q.map PyData.int), tbD x.tb]).length = 4 := rfl
    show (tupleText (PyData.shownAll [.tuple [.str x.kd, .int x.k], .bool x.fwd, .tuple (x.q.map PyData.int), tbD x.tb])).length ≤ 905000
    have := hs.ln; have := hp.ln; have := hd.2.2; have := hbl.2.2
    omega
theorem stsD_shw {fs : List Str} {B : Int} (hn : Names fs) (hB : B ≤ 1000) : ∀ xs : List Stq, (∀ x ∈ xs, StqOk fs B x) → PyData.showableAll (xs.map stqD) = true ∧ PyData.depthAll (xs.map stqD) ≤ 52 ∧ ((PyData.shownAll (xs.map stqD)).map (·.length)).sum ≤ 905000 * xs.length ∧ (PyData.shownAll (xs.map stqD)).length = xs.length
  | [], _ => ⟨rfl, Nat.zero_le _, Nat.zero_le _, rfl⟩
  | x :: xs, h => by
    obtain ⟨a, b, c, d⟩ := stsD_shw hn hB xs fun y hy => h y (List.mem_cons_of_mem _ hy)
    obtain ⟨h1, h2, h3⟩ := stqD_shw hn hB (h x (List.mem_cons_self ..))
    refine ⟨by show ((stqD x).showable && PyData.showableAll (xs.map stqD)) = true; rw [h1, a]; rfl, by show max (stqD x).depth (PyData.depthAll (xs.map stqD)) ≤ 52; omega, ?_, congrArg (· + 1) d⟩
    show (stqD x).shown.length + ((PyData.shownAll (xs.map stqD)).map (·.length)).sum ≤ 905000 * (xs.length + 1)
    omega
/-- repr of a list of steps -/
def rShowS (X : Cx) : List V → Hp → VK → Prop := fun vs H Q => X.A.guards = some [] ∧ ∃ a ws xs fs, ∃ B : Int, vs = [.ref a] ∧ H a = some (.lst ws) ∧ StsIn H ws xs ∧ Names fs ∧ B ≤ 1000 ∧ (∀ x ∈ xs, StqOk fs B x) ∧ xs.length ≤ 18 ∧ Q (.str (stsD xs).shown) H
theorem call_showS (hu : X.A.units + 64 < cLine) (hb : (X.base.get? sysModules).isSome = true) : CallR X (.builtin "repr") (rShowS X) := by
  intro pins s σ H vs us Q I r h
  obtain ⟨hg, a, ws, xs, fs, B, rfl, ha, hst, hn, hB, hx, hz, q⟩ := h
  obtain ⟨a1, a2, a3, a4⟩ := stsD_shw hn hB xs hx
  cases r with
  | cons r rr =>
    cases rr
    cases r
    obtain ⟨_, vs, n, rv, e⟩ : _ := I.hok a _ ha
    obtain ⟨as, rd, ns⟩ := sts_reads I hst (us := vs) rv
    have hS : sysModules ≠ a := fun z => by
      obtain ⟨o, eo⟩ := Option.isSome_iff_exists.mp hb
      have := (I.bs _ _ eo).2
      rw [z, ha] at this; cases this
    have rd' : Reads s.heap (.ref a) (stsD xs) (a :: as) := Reads.list e rfl rfl (by simpa using rd)
    have hln : (stsD xs).shown.length ≤ sizeLine := by
      refine Nat.le_trans (listText_len_le _) (Nat.le_trans (show _ ≤ 16400000 from ?_) (by decide))
      rw [a4]; omega
    have hdp : (stsD xs).depth ≤ 53 := Nat.succ_le_succ a2
    refine repr_of_reads' rd' a1 (fun _ z => ?_) hg (by omega) (fun _ _ e => e) (fun h' u tk hk => ⟨.str (stsD xs).shown, H, I.kept hk, ⟨u, rfl⟩, q⟩) hln
    rcases List.mem_cons.mp z with z | z
    · exact hS z
    · exact ns z
/-- dict(d) -/
def rDictC : List V → Hp → VK → Prop := fun vs H Q => ∃ a kvs, vs = [.ref a] ∧ H a = some (.dK kvs) ∧ ∀ p, H p = none → Q (.ref p) (upd H p (.dK kvs))
theorem call_dictC : CallR X (.type "dict") rDictC := by
  intro pins s σ H vs us Q I r h
  obtain ⟨a, kvs, rfl, ha, q⟩ := h
  cases r with
  | cons r rr =>
    cases rr
    cases r
    exact d_copyOf I (.inl ha) fun p s' hp I' => ⟨.ref p, _, I', rfl, q p hp⟩
end
/-! ### chains -/
/-- a link of a chain: the step, its equation, the term behind it -/
structure Lnk where
  st : Stq
  L : Tm
  R : Tm
  t : Tm
def Chn (fs : List Str) : Tm → List Lnk → Prop
  | _, [] => True
  | t, x :: r => Stp fs t x.t x.st.fwd x.st.q x.st.tb x.L x.R ∧ Chn fs x.t r
def lastT : Tm → List Lnk → Tm
  | t, [] => t
  | _, x :: r => lastT x.t r
theorem lastT_snoc : ∀ (r : List Lnk) (t : Tm) (x : Lnk), lastT t (r ++ [x]) = x.t
  | [], _, _ => rfl
  | _ :: r, _, x => lastT_snoc r _ x
theorem Chn.snoc {fs : List Str} {x : Lnk} : ∀ {r : List Lnk} {t : Tm}, Chn fs t r → Stp fs (lastT t r) x.t x.st.fwd x.st.q x.st.tb x.L x.R → Chn fs t (r ++ [x])
  | [], _, _, h => ⟨h, trivial⟩
  | _ :: _, _, h, g => ⟨h.1, Chn.snoc h.2 g⟩
theorem Chn.last {fs : List Str} : ∀ {r : List Lnk} {t : Tm}, Chn fs t r → t.wf fs 9 → (lastT t r).wf fs 9 ∧ (lastT t r).sz ≤ t.sz + 16 * r.length ∧ (lastT t r).dep ≤ t.dep + 4 * r.length
  | [], t, _, w => ⟨w, Nat.le_refl _, Nat.le_refl _⟩
  | x :: r, t, h, w => by
    obtain ⟨a, b, c⟩ := Chn.last h.2 h.1.w'
    have := h.1.z'
    have := h.1.d'
    show (lastT x.t r).wf fs 9 ∧ (lastT x.t r).sz ≤ t.sz + 16 * (r.length + 1) ∧ (lastT x.t r).dep ≤ t.dep + 4 * (r.length + 1)
    exact ⟨a, by omega, by omega⟩
/-- equations in the heap -/
def EqnIn (H : Hp) (w : V) (L R : Tm) : Prop := ∃ (e : Addr) (lv rv : V), w = .ref e ∧ H e = some (.tup [lv, rv]) ∧ TmIn H L lv ∧ TmIn H R rv
theorem EqnIn.tu {H H' : Hp} {w : V} {L R : Tm} (h : EqnIn H w L R) (t : Tu H H') : EqnIn H' w L R := by
  obtain ⟨e, lv, rv, e1, h1, h2, h3⟩ := h
  exact ⟨e, lv, rv, e1, t _ _ h1, h2.tu t, h3.tu t⟩
def EqsIn (H : Hp) : List V → List Lnk → Prop
  | [], [] => True
  | w :: ws, x :: xs => EqnIn H w x.L x.R ∧ EqsIn H ws xs
  | _, _ => False
theorem EqsIn.tu {H H' : Hp} (t : Tu H H') : ∀ {ws : List V} {xs : List Lnk}, EqsIn H ws xs → EqsIn H' ws xs
  | [], [], _ => trivial
  | [], _ :: _, h => h.elim
  | _ :: _, [], h => h.elim
  | _ :: _, _ :: _, h => ⟨h.1.tu t, EqsIn.tu t h.2⟩
theorem EqsIn.snoc {H : Hp} {w : V} {x : Lnk} (hw : EqnIn H w x.L x.R) : ∀ {ws : List V} {xs : List Lnk}, EqsIn H ws xs → EqsIn H (ws ++ [w]) (xs ++ [x])
  | [], [], _ => ⟨hw, trivial⟩
  | [], _ :: _, h => h.elim
  | _ :: _, [], h => h.elim
  | _ :: _, _ :: _, h => ⟨h.1, EqsIn.snoc hw h.2⟩
theorem EqsIn.length {H : Hp} : ∀ {ws : List V} {xs : List Lnk}, EqsIn H ws xs → ws.length = xs.length
  | [], [], _ => rfl
  | [], _ :: _, h => h.elim
  | _ :: _, [], h => h.elim
  | _ :: _, _ :: _, h => congrArg (· + 1) (EqsIn.length h.2)
theorem EqsIn.get' {H : Hp} : ∀ {ws : List V} {xs : List Lnk} {i : Nat} {x : Lnk}, EqsIn H ws xs → xs[i]? = some x → ∃ w, ws[i]? = some w ∧ EqnIn H w x.L x.R
  | _, [], i, x, _, e => by simp at e
  | [], _ :: _, _, _, h, _ => h.elim
  | v :: ws, y :: xs, 0, x, h, e => ⟨v, rfl, (show y = x by simpa using e) ▸ h.1⟩
  | v :: ws, y :: xs, i + 1, x, h, e => by
    obtain ⟨w, h1, h2⟩ := EqsIn.get' h.2 (i := i) (x := x) (by simpa using e)
    exact ⟨w, by simpa using h1, h2⟩
end J

/-! ### following steps, backwards -/
namespace J
open PySem L2
structure StepIn (H : Hp) (a : Addr) (src pa bd : Addr) (k : Nat) (fwd : Bool) (q : List Int) (tb : List (Int × Tm)) : Prop where
  st : H a = some (.tup [.ref src, .bl fwd, .ref pa, .ref bd])
  so : H src = some (.tup [.str "given", .int (k : Int)])
  po : H pa = some (.tup (q.map V.int))
  tb : ∃ kvs, H bd = some (.dK kvs) ∧ TbIn H kvs tb
theorem StepIn.same {H H' : Hp} {a src pa bd : Addr} {k : Nat} {fwd : Bool} {q : List Int} {tb : List (Int × Tm)} (h : StepIn H a src pa bd k fwd q tb) (s : Same H H') : StepIn H' a src pa bd k fwd q tb := by
  obtain ⟨kvs, h1, h2⟩ := h.tb
  exact ⟨s _ _ h.st, s _ _ h.so, s _ _ h.po, kvs, s _ _ h1, h2.tu (tu_same s)⟩
def NextOk (H : Hp) (xs : List V) (a : Addr) (t t' : Tm) : Prop := ∃ (src pa bd : Addr) (k : Nat) (fwd : Bool) (q : List Int) (tb : List (Int × Tm)) (e : Addr) (lv rv : V) (L R c : Tm),
  StepIn H a src pa bd k fwd q tb ∧ xs[k]? = some (.ref e) ∧ H e = some (.tup [lv, rv]) ∧ TmIn H L lv ∧ TmIn H R rv ∧ (L.sz ≤ 20000 ∧ L.dep ≤ 58 ∧ R.sz ≤ 20000 ∧ R.dep ≤ 58) ∧ at? q t = some c ∧
  tb.length = (adds (vars L) (vars R)).length ∧ (∀ n ∈ adds (vars L) (vars R), look tb n ≠ none) ∧
  c = sub (look tb) (if fwd then L else R) ∧ (sub (look tb) (if fwd then R else L)).sz ≤ 50000 ∧ t' = rep (sub (look tb) (if fwd then R else L)) q t
theorem NextOk.same {H H' : Hp} {xs : List V} {a : Addr} {t t' : Tm} (h : NextOk H xs a t t') (s : Same H H') : NextOk H' xs a t t' := by
  obtain ⟨src, pa, bd, k, fwd, q, tb, e, lv, rv, L, R, c, h1, h2, h3, h4, h5, h6⟩ := h
  exact ⟨src, pa, bd, k, fwd, q, tb, e, lv, rv, L, R, c, h1.same s, h2, s _ _ h3, h4.tu (tu_same s), h5.tu (tu_same s), h6⟩
/-- the steps lead from t to t' -/
def FolIn (H : Hp) (xs : List V) : List V → Tm → Tm → Prop
  | [], t, t' => t = t'
  | w :: ws, t, t' => ∃ (a : Addr) (t1 : Tm), w = .ref a ∧ NextOk H xs a t t1 ∧ t1.sz ≤ 20000 ∧ t1.dep ≤ 58 ∧ FolIn H xs ws t1 t'
theorem FolIn.same {H H' : Hp} {xs : List V} (s : Same H H') : ∀ {ws : List V} {t t' : Tm}, FolIn H xs ws t t' → FolIn H' xs ws t t'
  | [], _, _, h => h
  | _ :: _, _, _, ⟨a, t1, e, h1, h2, h3, h4⟩ => ⟨a, t1, e, h1.same s, h2, h3, FolIn.same s h4⟩
theorem tm_not_non {H : Hp} {t : Tm} {r : V} (h : TmIn H t r) : r ≠ .non := by
  cases t with
  | var n => cases (show r = .int n from h); exact fun z => nomatch z
  | app f ts => obtain ⟨a, vs, rfl, _⟩ := h; exact fun z => nomatch z
theorem Chn.unsnoc {fs : List Str} {x : Lnk} : ∀ {r : List Lnk} {t : Tm}, Chn fs t (r ++ [x]) → Chn fs t r ∧ Stp fs (lastT t r) x.t x.st.fwd x.st.q x.st.tb x.L x.R
  | [], _, h => ⟨trivial, h.1⟩
  | _ :: _, _, h => ⟨⟨h.1, (Chn.unsnoc h.2).1⟩, (Chn.unsnoc h.2).2⟩
theorem lastT_get : ∀ (xs : List Lnk) (t : Tm), (t :: xs.map (·.t))[xs.length]? = some (lastT t xs)
  | [], _ => rfl
  | x :: r, t => by
    show (x.t :: r.map (·.t))[r.length]? = some (lastT x.t r)
    exact lastT_get r x.t
theorem src_lay (kd : Str) (h : PySem.PyData.strOk kd = true) (k : Int) : (PyData.tuple [.str kd, .int k]).canLay0 = true ∧ SeqAt.shaped (.tuple [.str kd, .int k]) = true := by
  have h1 : (PyData.tuple [.str kd, .int k]).canLay0 = true := by
    show (PySem.PyData.strOk kd && (true && true)) = true
    rw [h]; rfl
  refine ⟨h1, ?_⟩
  unfold SeqAt.shaped
  rw [h1]; rfl
theorem given_ok : PySem.PyData.strOk ("given" : Str) = true := by decide +kernel
/-- the steps of a chain may be shown -/
theorem chn_ok {fs : List Str} : ∀ {xs : List Lnk} {t : Tm}, Chn fs t xs → t.wf fs 9 → t.sz + 16 * xs.length ≤ 900 → t.dep + 4 * xs.length ≤ 45 → (∀ x ∈ xs, x.st.kd = ("given" : Str) ∧ x.st.k.natAbs < 10000) → ∀ x ∈ xs, StqOk fs 9 x.st
  | [], _, _, _, _, _, _, x, hx => nomatch hx
  | y :: r, t, ch, wt, zt, dt, hk, x, hx => by
    have zt : t.sz + 16 * (r.length + 1) ≤ 900 := zt
    have dt : t.dep + 4 * (r.length + 1) ≤ 45 := dt
    rcases List.mem_cons.mp hx with e | hx
    · rw [e]
      obtain ⟨h1, h2⟩ := hk y (List.mem_cons_self ..)
      have s := ch.1
      have ip : IsPos y.st.q t := (isPos_at _ _).mpr ⟨_, s.hat⟩
      have hl := at_len _ _ _ s.hat
      refine ⟨h2, by rw [h1]; decide +kernel, by rw [h1]; decide +kernel, by omega, fun n hn => ?_, s.few, s.nd, fun z hz => ?_⟩
      · have := pos_ints _ _ ip n hn; omega
      · have := s.wt z hz
        exact ⟨by omega, this.2.1, by omega, by omega⟩
    · have := ch.1.z'
      have := ch.1.d'
      exact chn_ok ch.2 ch.1.w' (by omega) (by omega) (fun z hz => hk z (List.mem_cons_of_mem _ hz)) x hx
theorem StqOk.rev {fs : List Str} {B : Int} {x : Stq} (h : StqOk fs B x) : StqOk fs B x.rev := ⟨h.k, h.kd, h.kc, h.ql, h.qi, h.tl, h.nd, h.tb⟩
/-- the reversed steps lead back -/
theorem fol_back {H : Hp} {fs : List Str} {gs : List V} : ∀ (n : Nat) {ys : List Lnk} {t : Tm}, ys.length = n → Chn fs t ys → t.wf fs 9 → t.sz + 16 * ys.length ≤ 900 → t.dep + 4 * ys.length ≤ 45 →
    (∀ (i : Nat) (x : Lnk), ys[i]? = some x → ∃ w, gs[i]? = some w ∧ EqnIn H w x.L x.R) → (∀ (i : Nat) (x : Lnk), ys[i]? = some x → x.st.kd = ("given" : Str) ∧ x.st.k = ((i : Nat) : Int)) →
    ∀ rs, StsIn H rs ((ys.map (·.st)).reverse.map Stq.rev) → FolIn H gs rs (lastT t ys) t
  | 0, ys, t, hn, _, _, _, _, _, _, rs, hr => by
    have : ys = [] := List.length_eq_zero_iff.mp hn
    subst this
    match rs, hr with
    | [], _ => rfl
    | _ :: _, hr => exact hr.elim
  | n + 1, ys, t, hn, ch, wt, zt, dt, hg, hk, rs, hr => by
    rcases List.eq_nil_or_concat ys with z | ⟨us, x, z⟩
    · rw [z] at hn; cases hn
    · rw [List.concat_eq_append] at z
      subst z
      rw [List.length_append, List.length_singleton] at hn zt dt
      obtain ⟨cu, s⟩ := ch.unsnoc
      obtain ⟨lw, lz, ld⟩ := Chn.last cu wt
      rw [List.map_append, List.reverse_append] at hr
      have hr : StsIn H rs (x.st.rev :: (us.map (·.st)).reverse.map Stq.rev) := hr
      match rs, hr with
      | w :: rs, hr =>
        obtain ⟨hw, hr⟩ := hr
        obtain ⟨a, src, pa, bd, kvs, rfl, h1, h2, h3, h4, h5⟩ := hw
        have gx : (us ++ [x])[us.length]? = some x := by rw [List.getElem?_append_right (Nat.le_refl _), Nat.sub_self]; rfl
        obtain ⟨w, gw, e, lv, rv, rfl, h6, h7, h8⟩ := hg us.length x gx
        obtain ⟨kd, kk⟩ := hk us.length x gx
        rw [lastT_snoc]
        have ip : IsPos x.st.q (lastT t us) := (isPos_at _ _).mpr ⟨_, s.hat⟩
        have zc := at_sz _ _ _ s.hat
        have ih := fol_back n (by omega) cu wt (by omega) (by omega) (fun i y gy => hg i y (by rw [List.getElem?_append_left (List.getElem?_eq_some_iff.mp gy).1]; exact gy)) (fun i y gy => hk i y (by rw [List.getElem?_append_left (List.getElem?_eq_some_iff.mp gy).1]; exact gy)) rs hr
        refine ⟨a, lastT t us, rfl, ⟨src, pa, bd, us.length, !x.st.fwd, x.st.q, x.st.tb, e, lv, rv, x.L, x.R, sub (look x.st.tb) (if x.st.fwd then x.R else x.L), ⟨h1, ?_, h3, kvs, h4, h5⟩, gw, h6, h7, h8, ?_, ?_, s.len, s.has, ?_, ?_, ?_⟩, by omega, by omega, ih⟩
        · have e1 : x.st.rev.kd = ("given" : Str) := kd
          have e2 : x.st.rev.k = ((us.length : Nat) : Int) := kk
          rw [e1, e2] at h2; exact h2
        · have := s.zl; have := s.zr
          exact ⟨by omega, by omega, by omega, by omega⟩
        · rw [s.res]
          exact at_rep _ _ _ ip
        · cases x.st.fwd <;> rfl
        · have : (if (!x.st.fwd) then x.R else x.L) = (if x.st.fwd then x.L else x.R) := by cases x.st.fwd <;> rfl
          rw [this]; omega
        · have : (if (!x.st.fwd) then x.R else x.L) = (if x.st.fwd then x.L else x.R) := by cases x.st.fwd <;> rfl
          rw [this, s.res]
          exact (rep_back _ _ _ _ s.hat).symm
end J

/-! ### the end of a law whose promise holds while nothing is being shown -/
namespace J
open PySem PySem.Spec PyProof.Rows L2
section
variable {P : Program} {w : World} {K : PySem.W.Frag} {mg mb : Str → Option Value} {k : Nat} {fa a : Addr} {fd : FuncData} {x : Str} {sp : Sp} {s₁ : Shared} {vs : List Value} {ns : List Int}
/-- from one abstract heap, with the script in it or outside it -/
theorem quiet_core (H : Hp) (KX : K.In s₁.heap) (hns : s₁.heap.Ns mainGlobals mg) (hb : s₁.heap.Ns builtinsNs mb) (hbb : ∀ x : Str, x ≠ "__name__" → mb x = bootBuiltins x) (hlim : s₁.heap.NoLimit) (hg : s₁.gens = #[])
    (hr : Room k callerA) (F : ∀ base : Heap, K.In base → base.Ns mainGlobals mg → Quiet P w K mg base k fa fd [x] sp) (hbind : ∀ (s : Shared) (u : Value), BindsTo s fd ⟨[u], []⟩ [(x, u)])
    (hO : ∀ b, H b = none ∨ (∃ o xs, H b = some (.frz o (.lst xs)) ∧ K.lookup b = none ∧ s₁.heap.get? b = some o ∧ ∀ es ep, o.data ≠ .dict es ep)) (hok : HOk P w H s₁.heap)
    (hsp : sp [.ref a] H (fun v _ => v = .bl true) fun _ _ _ => False) :
    codeAny (model P w) callerA (.call (.ref fa) ⟨[.ref a], []⟩) (fun r s' => r = .ok (.ret (.bool true)) ∧ OldK s₁.heap s'.heap ∧ s'.os = s₁.os ∧ AllBare s'.gens) s₁ := by
  have dark : ∀ {b : Addr} {o : Obj} {es : Array DictEntry} {ep : Nat}, s₁.heap.get? b = some o → o.data = .dict es ep → (hidT s₁.heap H).get? b = some o := fun {b o es ep} e d => hidT_get e <| by
    rcases hO b with z | ⟨o', xs, _, _, e2, e3⟩
    · exact z
    · rw [e] at e2; cases e2
      exact absurd d (e3 es ep)
  have names : ∀ {b : Addr} {m : Str → Option Value}, s₁.heap.Ns b m → (hidT s₁.heap H).Ns b m := fun {b m} ⟨o, es, ep, e, d, r⟩ => ⟨o, es, ep, dark e d, d, r⟩
  have kin : K.In (hidT s₁.heap H) := fun b o e => hidT_get (KX b o e) <| by
    rcases hO b with z | ⟨o', xs, _, e2, _⟩
    · exact z
    · rw [e] at e2; cases e2
  have md : Mod K mg (hidT s₁.heap H) := ⟨kin, names hns, ⟨mb, names hb, hbb⟩, hlim.imp fun mc h => ⟨names h.1, h.2⟩⟩
  have e0 : Env0 P w K mg (hidT s₁.heap H) callerA [] s₁ H := ⟨rfl, md, fun b o e => of_hidT e, Nat.le_of_eq (hidT_size _ _), trivial, fun b hb => absurd hb List.not_mem_nil, hok, .of_eq hg⟩
  refine codeAny_mono ((F _ kin (names hns)).run callerA [] s₁ H ⟨[.ref a], []⟩ [.ref a] [.ref a] _ _ rfl hr e0 (hbind s₁ (.ref a)) (.cons rfl .nil) hsp) fun r s' h => ?_
  match r, h with
  | .error _, h => exact h.elim
  | .ok .next, h => exact h.elim
  | .ok .brk, h => exact h.elim
  | .ok .cont, h => exact h.elim
  | .ok (.ret u), ⟨v, H', os, bare, un, hok', r', q⟩ =>
    cases (show v = .bl true from q)
    cases (show u = Value.bool true from r')
    refine ⟨rfl, OldK.of_keep fun b o e => ?_, os, bare⟩
    rcases hO b with z | ⟨o', xs, z, _, e2, _⟩
    · exact un.keep b o e z (fun z => absurd z List.not_mem_nil) (by simp)
    · rw [e] at e2; cases e2
      exact (hok' b _ (un.frzs b o _ z)).1
end
theorem walk_quiet {l : PySem.W.OpenLaw} {n k : Nat} {q : Program} {loose : List Str} {XP : (Str → Option Value) → Heap → Prop} {YP : World → Heap → Prop} {d : DefRec} {K : Params → PySem.W.Frag} {sp : World → Sp} {x : Str}
    (hn : l.most = some n) (hn2 : n ≤ sizeLine) (hdf : d.params.defaults = []) (hr : Room k callerA) (hY : ∀ (w : World) (h : Heap), YP w h → (K w.params).In h)
    (F : ∀ (w : World) (mg : Str → Option Value) (fa : Addr) (h : Heap), (K w.params).In h → h.Ns mainGlobals mg → mg d.name = some (.ref fa) →
      ∃ fd : FuncData, (∀ (s : Shared) (u : Value), BindsTo s fd ⟨[u], []⟩ [(x, u)]) ∧ ∀ base : Heap, (K w.params).In base → base.Ns mainGlobals mg → Quiet l.prog w (K w.params) mg base k fa fd [x] (sp w))
    (hsp : ∀ (w : World) (H : Hp) (a : Addr) (ns : List Int), ns.length ≤ n → SqL (K w.params) H a (ns.map V.int) → sp w [.ref a] H (fun v _ => v = .bl true) fun _ _ _ => False) :
    PySem.W.WalkO q loose XP YP l.row.toRowW d [] (fun f vs => PySem.call f vs) := by
  refine Att.attach_call hn hdf fun w s₀ s₁ mg mb fa o pm cd doc a vs ns G Y ho hd hcd hmg ha hi hlen hg => ?_
  have KX := hY w _ Y
  obtain ⟨fd, hb, hF⟩ := F w mg fa _ KX G.T.g hmg
  have rv := vals_ints hi
  have lv := hi.length
  have hz := Nat.le_trans hlen hn2
  cases ek : (K w.params).lookup a with
  | some o' =>
    have e := KX a o' ek
    rw [ha] at e
    cases e
    exact quiet_core (fun _ => none) KX G.T.g G.T.b G.T.builtins G.T.nolimit hg hr hF hb (fun _ => .inl rfl) (fun b u z => nomatch z)
      (hsp w _ a ns hlen (.inr ⟨_, vs.toArray, _, ek, rfl, rfl, rfl, by rw [List.size_toArray, lv]; exact hz, by simpa using rv⟩))
  | none =>
    let oa : Obj := { cls := .type "list", data := .seq vs.toArray }
    let Ha : Hp := fun b => if b = a then some (.frz oa (.lst (ns.map V.int))) else none
    have at_a : Ha a = some (.frz oa (.lst (ns.map V.int))) := if_pos rfl
    refine quiet_core Ha KX G.T.g G.T.b G.T.builtins G.T.nolimit hg hr hF hb (fun b => ?_) (fun b u z => ?_) (hsp w _ a ns hlen (.inl (.inr ⟨oa, at_a⟩)))
    · by_cases h : b = a
      · subst h; exact .inr ⟨oa, _, at_a, ek, ha, fun _ _ => nofun⟩
      · exact .inl (if_neg h)
    · by_cases h : b = a
      · subst h
        rw [at_a] at z; cases z
        exact ⟨ha, by rw [List.length_map]; exact hz, vs, _, rv, ha⟩
      · rw [show Ha b = none from if_neg h] at z; cases z
end J

/-! ### the end of a law that shows dicts: the dict of the modules stands outside what the law knows -/
namespace J
open PySem PySem.Spec PyProof.Rows L2
section
variable {P : Program} {w : World} {K : PySem.W.Frag} {mg mb : Str → Option Value} {k : Nat} {fa a : Addr} {fd : FuncData} {x : Str} {sp : Sp} {s₁ : Shared} {vs : List Value} {ns : List Int}
theorem quiet_coreS (H : Hp) (KX : K.In s₁.heap) (hns : s₁.heap.Ns mainGlobals mg) (hb : s₁.heap.Ns builtinsNs mb) (hbb : ∀ x : Str, x ≠ "__name__" → mb x = bootBuiltins x) (hlim : s₁.heap.NoLimit) (hsm : ∃ mm, s₁.heap.Ns sysModules mm) (hg : s₁.gens = #[])
    (hr : Room k callerA) (F : ∀ base : Heap, K.In base → base.Ns mainGlobals mg → (base.get? sysModules).isSome = true → Quiet P w K mg base k fa fd [x] sp) (hbind : ∀ (s : Shared) (u : Value), BindsTo s fd ⟨[u], []⟩ [(x, u)])
    (hO : ∀ b, H b = none ∨ (∃ o xs, H b = some (.frz o (.lst xs)) ∧ K.lookup b = none ∧ s₁.heap.get? b = some o ∧ ∀ es ep, o.data ≠ .dict es ep)) (hok : HOk P w H s₁.heap)
    (hsp : sp [.ref a] H (fun v _ => v = .bl true) fun _ _ _ => False) :
    codeAny (model P w) callerA (.call (.ref fa) ⟨[.ref a], []⟩) (fun r s' => r = .ok (.ret (.bool true)) ∧ OldK s₁.heap s'.heap ∧ s'.os = s₁.os ∧ AllBare s'.gens) s₁ := by
  have dark : ∀ {b : Addr} {o : Obj} {es : Array DictEntry} {ep : Nat}, s₁.heap.get? b = some o → o.data = .dict es ep → (hidT s₁.heap H).get? b = some o := fun {b o es ep} e d => hidT_get e <| by
    rcases hO b with z | ⟨o', xs, _, _, e2, e3⟩
    · exact z
    · rw [e] at e2; cases e2
      exact absurd d (e3 es ep)
  have names : ∀ {b : Addr} {m : Str → Option Value}, s₁.heap.Ns b m → (hidT s₁.heap H).Ns b m := fun {b m} ⟨o, es, ep, e, d, r⟩ => ⟨o, es, ep, dark e d, d, r⟩
  have kin : K.In (hidT s₁.heap H) := fun b o e => hidT_get (KX b o e) <| by
    rcases hO b with z | ⟨o', xs, _, e2, _⟩
    · exact z
    · rw [e] at e2; cases e2
  have md : Mod K mg (hidT s₁.heap H) := ⟨kin, names hns, ⟨mb, names hb, hbb⟩, hlim.imp fun mc h => ⟨names h.1, h.2⟩⟩
  have sm : ((hidT s₁.heap H).get? sysModules).isSome = true := by
    obtain ⟨mm, o, es, ep, e, d, _⟩ := hsm
    rw [dark e d]; rfl
  have e0 : Env0 P w K mg (hidT s₁.heap H) callerA [] s₁ H := ⟨rfl, md, fun b o e => of_hidT e, Nat.le_of_eq (hidT_size _ _), trivial, fun b hb => absurd hb List.not_mem_nil, hok, .of_eq hg⟩
  refine codeAny_mono ((F _ kin (names hns) sm).run callerA [] s₁ H ⟨[.ref a], []⟩ [.ref a] [.ref a] _ _ rfl hr e0 (hbind s₁ (.ref a)) (.cons rfl .nil) hsp) fun r s' h => ?_
  match r, h with
  | .error _, h => exact h.elim
  | .ok .next, h => exact h.elim
  | .ok .brk, h => exact h.elim
  | .ok .cont, h => exact h.elim
  | .ok (.ret u), ⟨v, H', os, bare, un, hok', r', q⟩ =>
    cases (show v = .bl true from q)
    cases (show u = Value.bool true from r')
    refine ⟨rfl, OldK.of_keep fun b o e => ?_, os, bare⟩
    rcases hO b with z | ⟨o', xs, z, _, e2, _⟩
    · exact un.keep b o e z (fun z => absurd z List.not_mem_nil) (by simp)
    · rw [e] at e2; cases e2
      exact (hok' b _ (un.frzs b o _ z)).1
end
theorem walk_quietS {l : PySem.W.OpenLaw} {n k : Nat} {q : Program} {loose : List Str} {XP : (Str → Option Value) → Heap → Prop} {YP : World → Heap → Prop} {d : DefRec} {K : Params → PySem.W.Frag} {sp : World → Sp} {x : Str}
    (hn : l.most = some n) (hn2 : n ≤ sizeLine) (hdf : d.params.defaults = []) (hq : importsNone q = true) (hr : Room k callerA) (hY : ∀ (w : World) (h : Heap), YP w h → (K w.params).In h)
    (F : ∀ (w : World) (mg : Str → Option Value) (fa : Addr) (h : Heap), (K w.params).In h → h.Ns mainGlobals mg → mg d.name = some (.ref fa) →
      ∃ fd : FuncData, (∀ (s : Shared) (u : Value), BindsTo s fd ⟨[u], []⟩ [(x, u)]) ∧ ∀ base : Heap, (K w.params).In base → base.Ns mainGlobals mg → (base.get? sysModules).isSome = true → Quiet l.prog w (K w.params) mg base k fa fd [x] (sp w))
    (hsp : ∀ (w : World) (H : Hp) (a : Addr) (ns : List Int), ns.length ≤ n → SqL (K w.params) H a (ns.map V.int) → sp w [.ref a] H (fun v _ => v = .bl true) fun _ _ _ => False) :
    PySem.W.WalkO q loose XP YP l.row.toRowW d [] (fun f vs => PySem.call f vs) := by
  refine Att.attach_call hn hdf fun w s₀ s₁ mg mb fa o pm cd doc a vs ns G Y ho hd hcd hmg ha hi hlen hg => ?_
  have KX := hY w _ Y
  obtain ⟨fd, hb, hF⟩ := F w mg fa _ KX G.T.g hmg
  have sm : ∃ mm, s₁.heap.Ns sysModules mm := (G.T.seer hq).mods.imp fun _ h => h.1
  have rv := vals_ints hi
  have lv := hi.length
  have hz := Nat.le_trans hlen hn2
  cases ek : (K w.params).lookup a with
  | some o' =>
    have e := KX a o' ek
    rw [ha] at e
    cases e
    exact quiet_coreS (fun _ => none) KX G.T.g G.T.b G.T.builtins G.T.nolimit sm hg hr hF hb (fun _ => .inl rfl) (fun b u z => nomatch z)
      (hsp w _ a ns hlen (.inr ⟨_, vs.toArray, _, ek, rfl, rfl, rfl, by rw [List.size_toArray, lv]; exact hz, by simpa using rv⟩))
  | none =>
    let oa : Obj := { cls := .type "list", data := .seq vs.toArray }
    let Ha : Hp := fun b => if b = a then some (.frz oa (.lst (ns.map V.int))) else none
    have at_a : Ha a = some (.frz oa (.lst (ns.map V.int))) := if_pos rfl
    refine quiet_coreS Ha KX G.T.g G.T.b G.T.builtins G.T.nolimit sm hg hr hF hb (fun b => ?_) (fun b u z => ?_) (hsp w _ a ns hlen (.inl (.inr ⟨oa, at_a⟩)))
    · by_cases h : b = a
      · subst h; exact .inr ⟨oa, _, at_a, ek, ha, fun _ _ => nofun⟩
      · exact .inl (if_neg h)
    · by_cases h : b = a
      · subst h
        rw [at_a] at z; cases z
        exact ⟨ha, by rw [List.length_map]; exact hz, vs, _, rv, ha⟩
      · rw [show Ha b = none from if_neg h] at z; cases z
end J

namespace Lw
open PySem L2 PyProof.Rows J
local macro_rules | `(tactic| walk_at "hp") => `(tactic| first | assumption | exact upd_same)
local macro_rules | `(tactic| walk_at "side") => `(tactic| first
  | (show (0 : Int) < _; decide)
  | exact Or.inr ⟨by decide, by decide⟩
  | exact Or.inl ⟨by decide, by decide⟩
  | exact ⟨by decide, by decide⟩
  | exact ⟨by decide, by decide, by decide⟩
  | (show (_ : Int) ≠ 0; omega)
  | (show _ < _; omega)
  | exact ⟨by omega, by omega⟩
  | exact Or.inl ⟨by omega, by omega⟩
  | exact Or.inr ⟨by omega, by omega⟩)
local macro_rules | `(tactic| walk_at "rd1") => `(tactic| first
  | refine ⟨_, rfl, ?_⟩
  | refine ⟨_, _, rfl, rfl, by walk_at "side", ?_⟩
  | refine ⟨_, _, rfl, rfl, ?_⟩
  | refine .inl ⟨_, rfl, ?_⟩
  | refine ⟨_, _, _, _, rfl, rfl, SqL.of (by walk_at "hp"), by first | assumption | exact at_zero | rfl, ?_⟩
  | refine ⟨_, _, _, _, rfl, rfl, SqT.of (by walk_at "hp"), by first | assumption | exact at_zero | rfl, ?_⟩
  | refine ⟨_, _, rfl, .inl (SqL.of (by walk_at "hp")), ?_⟩
  | refine ⟨_, _, rfl, .inr (SqT.of (by walk_at "hp")), ?_⟩
  | refine ⟨_, _, _, _, rfl, rfl, by walk_at "hp", rfl, ?_⟩
  | refine ⟨rfl, ?_⟩)
local macro_rules | `(tactic| walk_at "rd") => `(tactic| repeat walk_at "rd1")
local macro_rules | `(tactic| walk_at "isi") => `(tactic| first
  | refine ⟨_, _, _, _, true, rfl, .ty _, .base (.int _), kit_ty (by decide +kernel), ?_⟩
  | refine ⟨_, _, _, _, false, rfl, .ty _, .base (.int _), kit_ty (by decide +kernel), ?_⟩
  | refine ⟨_, _, _, _, true, rfl, .ty _, .base (.tup (by walk_at "hp")), kit_ty (by decide +kernel), ?_⟩
  | refine ⟨_, _, _, _, false, rfl, .ty _, .base (.tup (by walk_at "hp")), kit_ty (by decide +kernel), ?_⟩
  | refine ⟨_, _, _, _, true, rfl, .ty _, .base (.lst (by walk_at "hp")), kit_ty (by decide +kernel), ?_⟩
  | refine ⟨_, _, _, _, false, rfl, .ty _, .base (.lst (by walk_at "hp")), kit_ty (by decide +kernel), ?_⟩
  | refine ⟨_, _, _, _, true, rfl, .ty _, .base (.dK (by walk_at "hp")), kit_ty (by decide +kernel), ?_⟩
  | refine ⟨_, _, _, _, false, rfl, .ty _, .base (.dK (by walk_at "hp")), kit_ty (by decide +kernel), ?_⟩
  | refine ⟨_, _, _, _, true, rfl, .ty _, .base (.str _), kit_ty (by decide +kernel), ?_⟩
  | refine ⟨_, _, _, _, false, rfl, .ty _, .base (.str _), kit_ty (by decide +kernel), ?_⟩
  | refine ⟨_, _, _, _, true, rfl, .ty _, .base (.bl _), kit_ty (by decide +kernel), ?_⟩
  | refine ⟨_, _, _, _, false, rfl, .ty _, .base (.bl _), kit_ty (by decide +kernel), ?_⟩
  | refine ⟨_, _, _, _, true, rfl, .ty _, .base (.non), kit_ty (by decide +kernel), ?_⟩
  | refine ⟨_, _, _, _, false, rfl, .ty _, .base (.non), kit_ty (by decide +kernel), ?_⟩)
local macro_rules | `(tactic| walk_at "sl1") => `(tactic| (refine ⟨_, _, rfl, SqT.of (by walk_at "hp"), sl1c _ _, ?_⟩; rw [cut1]))
local macro_rules | `(tactic| walk_at "ri") => `(tactic| repeat (first | walk_at "rd1" | walk_at "isi"))

def topS (i : Nat) : Stmt := PySem.Challenge.pw_joinedends_k15_reversed_steps.main.body.getD i (.Pass ⟨0, 0, 0, 0⟩)
abbrev s_u_law_state : Stmt := topS 6
theorem sc_u_law_state : FnScope ["script"] ["script"] (defScope s_u_law_state) := ⟨rfl, rfl, rfl, by decide +kernel, rfl, by decide +kernel, by decide +kernel⟩
abbrev s_u_law_mix : Stmt := topS 3
theorem sc_u_law_mix : FnScope ["cell", "number"] ["cell"] (defScope s_u_law_mix) := ⟨rfl, rfl, rfl, by decide +kernel, rfl, by decide +kernel, by decide +kernel⟩
abbrev s_u_law_number : Stmt := topS 4
theorem sc_u_law_number : FnScope ["cell", "first"] ["cell"] (defScope s_u_law_number) := ⟨rfl, rfl, rfl, by decide +kernel, rfl, by decide +kernel, by decide +kernel⟩
abbrev s_u_law_draw : Stmt := topS 7
theorem sc_u_law_draw : FnScope ["state", "many", "value"] ["state", "many"] (defScope s_u_law_draw) := ⟨rfl, rfl, rfl, by decide +kernel, rfl, by decide +kernel, by decide +kernel⟩
abbrev s_u_law_word : Stmt := topS 8
theorem sc_u_law_word : FnScope ["state", "many", "letters", "k"] ["state", "many"] (defScope s_u_law_word) := ⟨rfl, rfl, rfl, by decide +kernel, rfl, by decide +kernel, by decide +kernel⟩
abbrev s_u_law_names : Stmt := topS 9
theorem sc_u_law_names : FnScope ["state", "count", "letters", "before", "behind", "first", "k"] ["state", "count"] (defScope s_u_law_names) := ⟨rfl, rfl, rfl, by decide +kernel, rfl, by decide +kernel, by decide +kernel⟩
abbrev s_u_law_operations : Stmt := topS 10
theorem sc_u_law_operations : FnScope ["state", "names", "arities", "k"] ["state"] (defScope s_u_law_operations) := ⟨rfl, rfl, rfl, by decide +kernel, rfl, by decide +kernel, by decide +kernel⟩
abbrev s_u_law_leaf : Stmt := topS 11
theorem sc_u_law_leaf : FnScope ["state", "operations", "count"] ["state", "operations", "count"] (defScope s_u_law_leaf) := ⟨rfl, rfl, rfl, by decide +kernel, rfl, by decide +kernel, by decide +kernel⟩
abbrev s_u_law_term : Stmt := topS 12
theorem sc_u_law_term : FnScope ["state", "operations", "count", "height", "name", "arity", "term", "k"] ["state", "operations", "count", "height"] (defScope s_u_law_term) := ⟨rfl, rfl, rfl, by decide +kernel, rfl, by decide +kernel, by decide +kernel⟩
abbrev s_u_law_positions : Stmt := topS 15
theorem sc_u_law_positions : FnScope ["term", "found", "k", "inner"] ["term"] (defScope s_u_law_positions) := ⟨rfl, rfl, rfl, by decide +kernel, rfl, by decide +kernel, by decide +kernel⟩
abbrev s_u_law_subterm : Stmt := topS 13
theorem sc_u_law_subterm : FnScope ["term", "position", "k"] ["term", "position"] (defScope s_u_law_subterm) := ⟨rfl, rfl, rfl, by decide +kernel, rfl, by decide +kernel, by decide +kernel⟩
abbrev s_u_law_replace : Stmt := topS 14
theorem sc_u_law_replace : FnScope ["term", "position", "new", "k"] ["term", "position", "new"] (defScope s_u_law_replace) := ⟨rfl, rfl, rfl, by decide +kernel, rfl, by decide +kernel, by decide +kernel⟩
abbrev s_u_law_variables : Stmt := topS 17
theorem sc_u_law_variables : FnScope ["term", "found", "argument", "variable"] ["term"] (defScope s_u_law_variables) := ⟨rfl, rfl, rfl, by decide +kernel, rfl, by decide +kernel, by decide +kernel⟩
abbrev s_u_law_pattern : Stmt := topS 19
theorem sc_u_law_pattern : FnScope ["state", "term", "places", "position", "pattern", "bound", "variable"] ["state", "term", "places"] (defScope s_u_law_pattern) := ⟨rfl, rfl, rfl, by decide +kernel, rfl, by decide +kernel, by decide +kernel⟩
abbrev s_u_law_substitute : Stmt := topS 16
theorem sc_u_law_substitute : FnScope ["term", "substitution", "result", "argument"] ["term", "substitution"] (defScope s_u_law_substitute) := ⟨rfl, rfl, rfl, by decide +kernel, rfl, by decide +kernel, by decide +kernel⟩
abbrev s_u_law_step : Stmt := topS 20
theorem sc_u_law_step : FnScope ["state", "operations", "count", "term", "source", "places", "position", "inner", "old", "bound", "new", "variable", "result"] ["state", "operations", "count", "term", "source"] (defScope s_u_law_step) := ⟨rfl, rfl, rfl, by decide +kernel, rfl, by decide +kernel, by decide +kernel⟩
abbrev s_u_law_chain : Stmt := topS 21
theorem sc_u_law_chain : FnScope ["state", "operations", "count", "term", "first", "many", "given", "steps", "terms", "k", "equation", "step"] ["state", "operations", "count", "term", "first", "many"] (defScope s_u_law_chain) := ⟨rfl, rfl, rfl, by decide +kernel, rfl, by decide +kernel, by decide +kernel⟩
abbrev s_reverse : Stmt := topS 1
theorem sc_reverse : FnScope ["steps", "source", "is_forward", "position", "substitution"] ["steps"] (defScope s_reverse) := ⟨rfl, rfl, rfl, by decide +kernel, rfl, by decide +kernel, by decide +kernel⟩
abbrev s_u_law_equation : Stmt := topS 22
theorem sc_u_law_equation : FnScope ["given", "stages", "source", "kind", "index"] ["given", "stages", "source"] (defScope s_u_law_equation) := ⟨rfl, rfl, rfl, by decide +kernel, rfl, by decide +kernel, by decide +kernel⟩
abbrev s_u_law_is_step : Stmt := topS 24
theorem sc_u_law_is_step : FnScope ["step"] ["step"] (defScope s_u_law_is_step) := ⟨rfl, rfl, rfl, by decide +kernel, rfl, by decide +kernel, by decide +kernel⟩
abbrev s_u_law_same : Stmt := topS 18
theorem sc_u_law_same : FnScope ["first", "second", "k"] ["first", "second"] (defScope s_u_law_same) := ⟨rfl, rfl, rfl, by decide +kernel, rfl, by decide +kernel, by decide +kernel⟩
abbrev s_u_law_has_position : Stmt := topS 23
theorem sc_u_law_has_position : FnScope ["term", "position", "k"] ["term", "position"] (defScope s_u_law_has_position) := ⟨rfl, rfl, rfl, by decide +kernel, rfl, by decide +kernel, by decide +kernel⟩
abbrev s_u_law_next : Stmt := topS 25
theorem sc_u_law_next : FnScope ["given", "stages", "term", "step", "kind", "index", "many", "left", "right", "names", "variable"] ["given", "stages", "term", "step"] (defScope s_u_law_next) := ⟨rfl, rfl, rfl, by decide +kernel, rfl, by decide +kernel, by decide +kernel⟩
abbrev s_u_law_follow : Stmt := topS 26
theorem sc_u_law_follow : FnScope ["given", "stages", "term", "steps", "step"] ["given", "stages", "term", "steps"] (defScope s_u_law_follow) := ⟨rfl, rfl, rfl, by decide +kernel, rfl, by decide +kernel, by decide +kernel⟩
abbrev s_u_law_tells : Stmt := topS 5
theorem sc_u_law_tells : FnScope ["actual", "due"] ["actual", "due"] (defScope s_u_law_tells) := ⟨rfl, rfl, rfl, by decide +kernel, rfl, by decide +kernel, by decide +kernel⟩
abbrev s_law : Stmt := topS 27
theorem sc_law : FnScope ["script", "state", "operations", "term", "given", "steps", "terms", "kept", "actual", "back", "k", "told", "step"] ["script"] (defScope s_law) := ⟨rfl, rfl, rfl, by decide +kernel, rfl, by decide +kernel, by decide +kernel⟩
structure Ad where
  a_u_law_state : Addr
  d_u_law_state : FuncData
  a_u_law_mix : Addr
  d_u_law_mix : FuncData
  a_u_law_number : Addr
  d_u_law_number : FuncData
  a_u_law_draw : Addr
  d_u_law_draw : FuncData
  a_u_law_word : Addr
  d_u_law_word : FuncData
  a_u_law_names : Addr
  d_u_law_names : FuncData
  a_u_law_operations : Addr
  d_u_law_operations : FuncData
  a_u_law_leaf : Addr
  d_u_law_leaf : FuncData
  a_u_law_term : Addr
  d_u_law_term : FuncData
  a_u_law_positions : Addr
  d_u_law_positions : FuncData
  a_u_law_subterm : Addr
  d_u_law_subterm : FuncData
  a_u_law_replace : Addr
  d_u_law_replace : FuncData
  a_u_law_variables : Addr
  d_u_law_variables : FuncData
  a_u_law_pattern : Addr
  d_u_law_pattern : FuncData
  a_u_law_substitute : Addr
  d_u_law_substitute : FuncData
  a_u_law_step : Addr
  d_u_law_step : FuncData
  a_u_law_chain : Addr
  d_u_law_chain : FuncData
  a_reverse : Addr
  d_reverse : FuncData
  a_u_law_equation : Addr
  d_u_law_equation : FuncData
  a_u_law_is_step : Addr
  d_u_law_is_step : FuncData
  a_u_law_same : Addr
  d_u_law_same : FuncData
  a_u_law_has_position : Addr
  d_u_law_has_position : FuncData
  a_u_law_next : Addr
  d_u_law_next : FuncData
  a_u_law_follow : Addr
  d_u_law_follow : FuncData
  a_u_law_tells : Addr
  d_u_law_tells : FuncData
  a_law : Addr
  d_law : FuncData
structure Tx (K : PySem.W.Frag) (mg : Str → Option Value) (A : Ad) : Prop where
  F_u_law_state : Fun K "_law_state" "_law_state" s_u_law_state A.a_u_law_state A.d_u_law_state
  b_u_law_state : Binds K A.d_u_law_state ["script"] []
  m_u_law_state : mg "_law_state" = some (.ref A.a_u_law_state)
  F_u_law_mix : Fun K "_law_mix" "_law_mix" s_u_law_mix A.a_u_law_mix A.d_u_law_mix
  b_u_law_mix : Binds K A.d_u_law_mix ["cell"] []
  m_u_law_mix : mg "_law_mix" = some (.ref A.a_u_law_mix)
  F_u_law_number : Fun K "_law_number" "_law_number" s_u_law_number A.a_u_law_number A.d_u_law_number
  b_u_law_number : Binds K A.d_u_law_number ["cell"] []
  m_u_law_number : mg "_law_number" = some (.ref A.a_u_law_number)
  F_u_law_draw : Fun K "_law_draw" "_law_draw" s_u_law_draw A.a_u_law_draw A.d_u_law_draw
  b_u_law_draw : Binds K A.d_u_law_draw ["state", "many"] []
  m_u_law_draw : mg "_law_draw" = some (.ref A.a_u_law_draw)
  F_u_law_word : Fun K "_law_word" "_law_word" s_u_law_word A.a_u_law_word A.d_u_law_word
  b_u_law_word : Binds K A.d_u_law_word ["state", "many"] []
  m_u_law_word : mg "_law_word" = some (.ref A.a_u_law_word)
  F_u_law_names : Fun K "_law_names" "_law_names" s_u_law_names A.a_u_law_names A.d_u_law_names
  b_u_law_names : Binds K A.d_u_law_names ["state", "count"] []
  m_u_law_names : mg "_law_names" = some (.ref A.a_u_law_names)
  F_u_law_operations : Fun K "_law_operations" "_law_operations" s_u_law_operations A.a_u_law_operations A.d_u_law_operations
  b_u_law_operations : Binds K A.d_u_law_operations ["state"] []
  m_u_law_operations : mg "_law_operations" = some (.ref A.a_u_law_operations)
  F_u_law_leaf : Fun K "_law_leaf" "_law_leaf" s_u_law_leaf A.a_u_law_leaf A.d_u_law_leaf
  b_u_law_leaf : Binds K A.d_u_law_leaf ["state", "operations", "count"] []
  m_u_law_leaf : mg "_law_leaf" = some (.ref A.a_u_law_leaf)
  F_u_law_term : Fun K "_law_term" "_law_term" s_u_law_term A.a_u_law_term A.d_u_law_term
  b_u_law_term : Binds K A.d_u_law_term ["state", "operations", "count", "height"] []
  m_u_law_term : mg "_law_term" = some (.ref A.a_u_law_term)
  F_u_law_positions : Fun K "_law_positions" "_law_positions" s_u_law_positions A.a_u_law_positions A.d_u_law_positions
  b_u_law_positions : Binds K A.d_u_law_positions ["term"] []
  m_u_law_positions : mg "_law_positions" = some (.ref A.a_u_law_positions)
  F_u_law_subterm : Fun K "_law_subterm" "_law_subterm" s_u_law_subterm A.a_u_law_subterm A.d_u_law_subterm
  b_u_law_subterm : Binds K A.d_u_law_subterm ["term", "position"] []
  m_u_law_subterm : mg "_law_subterm" = some (.ref A.a_u_law_subterm)
  F_u_law_replace : Fun K "_law_replace" "_law_replace" s_u_law_replace A.a_u_law_replace A.d_u_law_replace
  b_u_law_replace : Binds K A.d_u_law_replace ["term", "position", "new"] []
  m_u_law_replace : mg "_law_replace" = some (.ref A.a_u_law_replace)
  F_u_law_variables : Fun K "_law_variables" "_law_variables" s_u_law_variables A.a_u_law_variables A.d_u_law_variables
  b_u_law_variables : Binds K A.d_u_law_variables ["term"] []
  m_u_law_variables : mg "_law_variables" = some (.ref A.a_u_law_variables)
  F_u_law_pattern : Fun K "_law_pattern" "_law_pattern" s_u_law_pattern A.a_u_law_pattern A.d_u_law_pattern
  b_u_law_pattern : Binds K A.d_u_law_pattern ["state", "term", "places"] []
  m_u_law_pattern : mg "_law_pattern" = some (.ref A.a_u_law_pattern)
  F_u_law_substitute : Fun K "_law_substitute" "_law_substitute" s_u_law_substitute A.a_u_law_substitute A.d_u_law_substitute
  b_u_law_substitute : Binds K A.d_u_law_substitute ["term", "substitution"] []
  m_u_law_substitute : mg "_law_substitute" = some (.ref A.a_u_law_substitute)
  F_u_law_step : Fun K "_law_step" "_law_step" s_u_law_step A.a_u_law_step A.d_u_law_step
  b_u_law_step : Binds K A.d_u_law_step ["state", "operations", "count", "term", "source"] []
  m_u_law_step : mg "_law_step" = some (.ref A.a_u_law_step)
  F_u_law_chain : Fun K "_law_chain" "_law_chain" s_u_law_chain A.a_u_law_chain A.d_u_law_chain
  b_u_law_chain : Binds K A.d_u_law_chain ["state", "operations", "count", "term", "first", "many"] []
  m_u_law_chain : mg "_law_chain" = some (.ref A.a_u_law_chain)
  F_reverse : Fun K "reverse" "reverse" s_reverse A.a_reverse A.d_reverse
  b_reverse : Binds K A.d_reverse ["steps"] []
  m_reverse : mg "reverse" = some (.ref A.a_reverse)
  F_u_law_equation : Fun K "_law_equation" "_law_equation" s_u_law_equation A.a_u_law_equation A.d_u_law_equation
  b_u_law_equation : Binds K A.d_u_law_equation ["given", "stages", "source"] []
  m_u_law_equation : mg "_law_equation" = some (.ref A.a_u_law_equation)
  F_u_law_is_step : Fun K "_law_is_step" "_law_is_step" s_u_law_is_step A.a_u_law_is_step A.d_u_law_is_step
  b_u_law_is_step : Binds K A.d_u_law_is_step ["step"] []
  m_u_law_is_step : mg "_law_is_step" = some (.ref A.a_u_law_is_step)
  F_u_law_same : Fun K "_law_same" "_law_same" s_u_law_same A.a_u_law_same A.d_u_law_same
  b_u_law_same : Binds K A.d_u_law_same ["first", "second"] []
  m_u_law_same : mg "_law_same" = some (.ref A.a_u_law_same)
  F_u_law_has_position : Fun K "_law_has_position" "_law_has_position" s_u_law_has_position A.a_u_law_has_position A.d_u_law_has_position
  b_u_law_has_position : Binds K A.d_u_law_has_position ["term", "position"] []
  m_u_law_has_position : mg "_law_has_position" = some (.ref A.a_u_law_has_position)
  F_u_law_next : Fun K "_law_next" "_law_next" s_u_law_next A.a_u_law_next A.d_u_law_next
  b_u_law_next : Binds K A.d_u_law_next ["given", "stages", "term", "step"] []
  m_u_law_next : mg "_law_next" = some (.ref A.a_u_law_next)
  F_u_law_follow : Fun K "_law_follow" "_law_follow" s_u_law_follow A.a_u_law_follow A.d_u_law_follow
  b_u_law_follow : Binds K A.d_u_law_follow ["given", "stages", "term", "steps"] []
  m_u_law_follow : mg "_law_follow" = some (.ref A.a_u_law_follow)
  F_u_law_tells : Fun K "_law_tells" "_law_tells" s_u_law_tells A.a_u_law_tells A.d_u_law_tells
  b_u_law_tells : Binds K A.d_u_law_tells ["actual", "due"] []
  m_u_law_tells : mg "_law_tells" = some (.ref A.a_u_law_tells)
  F_law : Fun K "law" "law" s_law A.a_law A.d_law
  b_law : Binds K A.d_law ["script"] []
  m_law : mg "law" = some (.ref A.a_law)
  n_bool : mg "bool" = none
  n_dict : mg "dict" = none
  n_int : mg "int" = none
  n_isinstance : mg "isinstance" = none
  n_len : mg "len" = none
  n_list : mg "list" = none
  n_range : mg "range" = none
  n_repr : mg "repr" = none
  n_str : mg "str" = none
  n_tuple : mg "tuple" = none
section
variable {P : Program} {w : World} {K : PySem.W.Frag} {mg : Str → Option Value} {base : Heap} {A : Ad}
/-! _law_state -/
def sp_u_law_state (K : PySem.W.Frag) : Sp := fun vs H Q _ => ∃ (a : Addr) (ns : List Int), vs = [.ref a] ∧ SqL K H a (ns.map V.int) ∧ ns.length ≤ 63 ∧ ∀ s l H', Same H H' → H s = none → H l = none → St H' s l → Q (.ref s) H'
theorem ok_u_law_state (T : Tx K mg A) : FnOk P w K mg base CX0 1 A.a_u_law_state A.d_u_law_state ["script"] (sp_u_law_state K) := by
  refine T.F_u_law_state.ok sc_u_law_state (fun vs H Q E h => ?_) (fun cdv Ar outer s0 H vs Q E hr h => ?_)
  · obtain ⟨a, ns, rfl, _⟩ := h; rfl
  obtain ⟨a, ns, rfl, hS, h63, q⟩ := h
  refine ⟨_, (pss_one (ps_ret (pe_lst (pa_cons pe_int (pa_cons (pe_callTy (r := rListS K) j_list (by rfl) T.n_list boot_list (pa_cons (pv 0) pa_nil)) (pa_cons pe_int (pa_cons (pe_op op_add pe_int (pe_callB (r := rLenS K) j_len (by rfl) T.n_len PySem.boot_len (pa_cons (pv 0) pa_nil))) pa_nil))))))), ?_⟩
  walk_at "rd"
  refine ⟨a, _, rfl, .inl hS, ?_⟩
  first | intro l n1 | refine fun l n1 => ?_
  generalize ehn : upd H l _ = H1
  have s1 := J.al_same n1 ehn
  have h1 := J.al_at ehn
  clear ehn
  walk_at "rd"
  refine ⟨a, _, rfl, .inl (s1.seq hS), ?_⟩
  walk_at "rd"
  refine ⟨by show 4 ≤ sizeLine; decide, ?_⟩
  first | intro s n2 | refine fun s n2 => ?_
  generalize ehn : upd H1 s _ = H2
  have s2 := J.al_same n2 ehn
  have h2 := J.al_at ehn
  clear ehn
  refine q s l H2 (s1.trans s2) (s1.free n2) n1 ⟨0, 0, _, ns, h2, s2 _ _ h1, Int.le_refl _, Int.natCast_nonneg _, Int.le_refl _, ?_, ?_, h63⟩
  · rw [List.length_map]; omega
  · rw [List.length_map]; omega

/-! _law_mix -/
def sp_u_law_mix : Sp := fun vs H Q _ => ∃ c : Int, vs = [.int c] ∧ ∀ r : Int, 0 ≤ r → r < 2147483647 → Q (.int r) H
theorem ok_u_law_mix (T : Tx K mg A) : FnOk P w K mg base CX0 (1) A.a_u_law_mix A.d_u_law_mix ["cell"] sp_u_law_mix := by
  refine T.F_u_law_mix.ok sc_u_law_mix (fun vs H Q E h => ?_) (fun cdv Ar outer s0 H vs Q E hr h => ?_)
  · obtain ⟨c, rfl, _⟩ := h; rfl
  obtain ⟨c, rfl, q⟩ := h
  refine ⟨_, (pss_cons (ps_set (i := 1) sc_u_law_mix.nd rfl (Or.inl rfl) (pe_op op_mod (pe_callTy call_int1 (by rfl) T.n_int boot_int (pa_cons (pv 0) pa_nil)) pe_int))
    (pss_cons (ps_set (i := 1) sc_u_law_mix.nd rfl (Or.inl rfl) (pe_op op_mod (pe_callTy call_int1 (by rfl) T.n_int boot_int (pa_cons (pe_op op_add (pe_op op_mul (pv 1) pe_int) pe_int) pa_nil)) pe_int))
    (pss_one (ps_ret (pe_op op_mod (pe_callTy call_int1 (by rfl) T.n_int boot_int (pa_cons (pe_op op_add (pe_op op_mul (pv 1) pe_int) pe_int) pa_nil)) pe_int))))), ?_⟩
  walk_at "rd"
  refine q _ (Int.emod_nonneg _ (by decide)) ?_
  show _ % _ < _
  omega

/-! _law_number -/
def sp_u_law_number : Sp := fun vs H Q _ => ∃ c : Int, vs = [.int c] ∧ ∀ r : Int, 0 ≤ r → Q (.int r) H
theorem ok_u_law_number (T : Tx K mg A) : FnOk P w K mg base CX0 (2) A.a_u_law_number A.d_u_law_number ["cell"] sp_u_law_number := by
  have G_u_law_mix := ok_u_law_mix (P := P) (w := w) (base := base) T
  refine T.F_u_law_number.ok sc_u_law_number (fun vs H Q E h => ?_) (fun cdv Ar outer s0 H vs Q E hr h => ?_)
  · obtain ⟨c, rfl, _⟩ := h; rfl
  obtain ⟨c, rfl, q⟩ := h
  refine ⟨_, (pss_cons (ps_if (pt_cmpR op_ge (pv 0) (pe_op op_pow pe_int pe_int) (nomark _)) (pss_one (ps_ret (pv 0))) pss_nil)
    (pss_cons (ps_set (i := 1) sc_u_law_number.nd rfl (Or.inl rfl) (pe_call G_u_law_mix (hr.mono (by omega)) rfl T.m_u_law_mix T.F_u_law_mix.kp T.b_u_law_mix .nil pass0 (pa_cons (pv 0) pa_nil)))
    (pss_one (ps_ret (pe_op op_add (pe_op op_mul (pv 1) pe_int) (pe_call G_u_law_mix (hr.mono (by omega)) rfl T.m_u_law_mix T.F_u_law_mix.kp T.b_u_law_mix .nil pass0 (pa_cons (pe_op op_add (pv 1) (pv 0)) pa_nil))))))), ?_⟩
  walk_at "rd"
  refine ite2 (fun e => ?_) (fun e => ?_)
  · walk_at "rd"
    have e := of_decide_eq_true e
    refine q _ (Int.le_trans ?_ e)
    decide
  · walk_at "rd"
    intro r1 r10 r11
    walk_at "rd"
    intro r2 r20 r21
    walk_at "rd"
    refine q _ ?_
    show 0 ≤ r1 * 2147483629 + r2
    omega

/-! _law_draw -/
def sp_u_law_draw : Sp := fun vs H Q _ => ∃ (s l : Addr) (m : Int), vs = [.ref s, .int m] ∧ St H s l ∧ 1 ≤ m ∧ m < 1073741824 ∧ ∀ r H', 0 ≤ r → r < m → But s H H' → St H' s l → Q (.int r) H'
theorem ok_u_law_draw (T : Tx K mg A) : FnOk P w K mg base CX0 (3) A.a_u_law_draw A.d_u_law_draw ["state", "many"] sp_u_law_draw := by
  have G_u_law_number := ok_u_law_number (P := P) (w := w) (base := base) T
  refine T.F_u_law_draw.ok sc_u_law_draw (fun vs H Q E h => ?_) (fun cdv Ar outer s0 H vs Q E hr h => ?_)
  · obtain ⟨s, l, m, rfl, _⟩ := h; rfl
  obtain ⟨s, l, m, rfl, hst, m1, m2, q⟩ := h
  refine ⟨_, (pss_cons (ps_if (PW.pt (pw_and (pt_cmpR op_lt (pe_ix (r := rIxL K) ix_list (pv 0) pe_int (fun _ _ => rfl)) (pv 1) (nomark _)) (pw_and1 (pt_cmpR op_lt (pe_ix (r := rIxL K) ix_list (pv 0) pe_int (fun _ _ => rfl)) (pe_callB (r := rLenS K) j_len (by rfl) T.n_len PySem.boot_len (pa_cons (pe_ix (r := rIxL K) ix_list (pv 0) pe_int (fun _ _ => rfl)) pa_nil)) (nomark _))))) (pss_cons (ps_asg (pe_call G_u_law_number (hr.mono (by omega)) rfl T.m_u_law_number T.F_u_law_number.kp T.b_u_law_number .nil pass0 (pa_cons (pe_ix (r := rIxL K) ix_list (pe_ix (r := rIxL K) ix_list (pv 0) pe_int (fun _ _ => rfl)) (pe_ix (r := rIxL K) ix_list (pv 0) pe_int (fun _ _ => rfl)) (fun _ _ => rfl)) pa_nil)) (pg_sub (pv 0) pe_int set_list))
    (pss_one (ps_asg (pe_op op_add (pe_ix (r := rIxL K) ix_list (pv 0) pe_int (fun _ _ => rfl)) pe_int) (pg_sub (pv 0) pe_int set_list)))) pss_nil)
    (pss_cons (ps_if (pt_cmpR op_eq (pe_ix (r := rIxL K) ix_list (pv 0) pe_int (fun _ _ => rfl)) pe_int (nomark _)) (pss_cons (ps_asg (pe_op op_mod (pe_callTy call_int1 (by rfl) T.n_int boot_int (pa_cons (pe_op op_add (pe_op op_mul (pe_ix (r := rIxL K) ix_list (pv 0) pe_int (fun _ _ => rfl)) pe_int) pe_int) pa_nil)) pe_int) (pg_sub (pv 0) pe_int set_list))
    (pss_one (ps_ret (pe_op op_modN (pe_callTy call_int1 (by rfl) T.n_int boot_int (pa_cons (pe_op op_fdiv (pe_ix (r := rIxL K) ix_list (pv 0) pe_int (fun _ _ => rfl)) pe_int) pa_nil)) (pv 1))))) pss_nil)
    (pss_cons (ps_set (i := 2) sc_u_law_draw.nd rfl (Or.inl rfl) (pe_op op_modN (pe_callTy call_int1 (by rfl) T.n_int boot_int (pa_cons (pe_ix (r := rIxL K) ix_list (pv 0) pe_int (fun _ _ => rfl)) pa_nil)) (pv 1)))
    (pss_cons (ps_asg (pe_op op_fdivN (pe_ix (r := rIxL K) ix_list (pv 0) pe_int (fun _ _ => rfl)) (pv 1)) (pg_sub (pv 0) pe_int set_list))
    (pss_one (ps_ret (pv 2))))))), ?_⟩
  obtain ⟨v, at0, sd, ns, h1, h2, a0, a1, v0, sd0, sd1, h63⟩ := hst
  have ls : l ≠ s := St.ne_list h1 h2
  refine seq_join (fun σ' H' => σ' = [some (.ref s), some (.int m), none] ∧ But s H H' ∧ ∃ v at0 sd : Int, H' s = some (.lst [.int v, .ref l, .int at0, .int sd]) ∧ H' l = some (.lst (ns.map V.int)) ∧ 0 ≤ at0 ∧ at0 ≤ (ns.length : Int) ∧ 0 ≤ v ∧ 0 ≤ sd ∧ sd < 2147483648) ?_ (fun N cont => ?_)
  · rintro σ' H' ⟨rfl, b1, v, at0, sd, h1, h2, a0, a1, v0, sd0, sd1⟩
    refine seq_join (fun σ' H'' => σ' = [some (.ref s), some (.int m), none] ∧ H'' = H') ?_ (fun N cont => ?_)
    · rintro σ' H'' ⟨rfl, rfl⟩
      walk_at "rd"
      refine q _ _ (fmod_0 m1) (fmod_lt m1) (b1.trans (but_upd _)) ⟨_, at0, sd, ns, upd_same, ?_, a0, a1, ?_, sd0, sd1, h63⟩
      · rw [upd_ne ls]; exact h2
      · exact Int.fdiv_nonneg v0 (by omega)
    · walk_at "rd"
      refine ite2 (fun e => ?_) (fun e => cont _ _ ⟨rfl, rfl⟩)
      walk_at "rd"
      refine q _ _ (fmod_0 m1) (fmod_lt m1) (b1.trans (but_upd _)) ⟨_, at0, _, ns, upd_same, ?_, a0, a1, v0, ?_, ?_, h63⟩
      · rw [upd_ne ls]; exact h2
      · exact Int.emod_nonneg _ (by decide)
      · show (sd * 48271 + 7) % 2147483647 < _
        omega
  · walk_at "rd"
    refine ite2 (fun e => ?_) (fun e => ?_)
    · walk_at "rd"
      refine ite2 (fun e => ?_) (fun e => ?_)
      · have e := of_decide_eq_true e
        rw [List.length_map] at e
        obtain ⟨n, gat⟩ := at_int a0 e
        walk_at "rd"
        intro r r0
        walk_at "rd"

        refine cont _ _ ⟨rfl, (but_upd _).trans (but_upd _), _, _, sd, upd_same, ?_, ?_, ?_, r0, sd0, sd1⟩
        · rw [upd_ne ls, upd_ne ls]; exact h2
        · show 0 ≤ at0 + 1
          omega
        · show at0 + 1 ≤ _
          omega
      · exact cont _ _ ⟨rfl, But.refl _ _, v, at0, sd, h1, h2, a0, a1, v0, sd0, sd1⟩
    · exact cont _ _ ⟨rfl, But.refl _ _, v, at0, sd, h1, h2, a0, a1, v0, sd0, sd1⟩

/-! _law_word -/
def sp_u_law_word : Sp := fun vs H Q _ => ∃ (s l : Addr) (m : Nat), vs = [.ref s, .int (m : Int)] ∧ St H s l ∧ m ≤ 1000 ∧ ∀ z H', But s H H' → St H' s l → z.length = m → Low z → Q (.str z) H'
theorem ok_u_law_word (T : Tx K mg A) : FnOk P w K mg base CX0 (4) A.a_u_law_word A.d_u_law_word ["state", "many"] sp_u_law_word := by
  have G_u_law_draw := ok_u_law_draw (P := P) (w := w) (base := base) T
  refine T.F_u_law_word.ok sc_u_law_word (fun vs H Q E h => ?_) (fun cdv Ar outer s0 H vs Q E hr h => ?_)
  · obtain ⟨s, l, m, rfl, _⟩ := h; rfl
  obtain ⟨s, l, m, rfl, hst, hm, q⟩ := h
  refine ⟨_, (pss_cons (ps_set (i := 2) sc_u_law_word.nd rfl (Or.inr rfl) pe_str)
    (pss_one (ps_ret (pe_join pe_str (pe_lc (own := [("k", 3)]) (by rfl) sc_u_law_word.nd (pi_range1 rfl T.n_range (pa_cons (pv 1) pa_nil)) (blkOk_by (own := [("k", 3)]) (N := ["state", "many", "letters", "k"]) (sc := defScope s_u_law_word) (by decide +kernel)) (fun _ _ _ _ _ => (pg_name (i := 3) sc_u_law_word.nd rfl (Or.inl rfl))) (fun _ _ _ _ _ => pts_nil) (fun _ _ _ _ _ => (pe_ix ix_str (pv 2) (pe_call G_u_law_draw (hr.mono (by omega)) rfl T.m_u_law_draw T.F_u_law_draw.kp T.b_u_law_draw .nil pass0 (pa_cons (pv 0) (pa_cons pe_int pa_nil))) (fun _ _ => rfl)))))))), ?_⟩
  refine ⟨⟨_, rfl⟩, ?_⟩
  walk_at "rd"
  refine ⟨by omega, by omega, fun D hD => ?_⟩
  obtain ⟨sD, lD⟩ := hst.free hD
  refine lc_range (lo := 0) (n := m) (fun i H' => ∃ zs : List Str, H' D = some (.lst (zs.map V.str)) ∧ zs.length = i ∧ (∀ z ∈ zs, z.length = 1 ∧ Low z) ∧ But s H H' ∧ St H' s l) ?_ ?_ ?_
  · exact ⟨[], upd_same, rfl, (fun z hz => nomatch hz), but_same (same_new hD _), hst.upd sD lD⟩
  · rintro i H1 hi ⟨zs, hD1, hl, hz, b1, st1⟩
    refine ⟨rfl, ?_⟩
    walk_at "rd"
    refine ⟨s, l, 26, rfl, st1, by decide, by decide, fun r H2 r0 r1 b2 st2 => ?_⟩
    refine ⟨_, _, _, rfl, rfl, by decide, abc_at r0 r1, ?_⟩
    have hD2 := b2 _ _ hD1 sD.symm
    refine ⟨_, hD2, ?_, zs ++ [⟨#[97 + r.toNat]⟩], ?_, ?_, ?_, (b1.trans b2).mut hD _, st2.upd sD lD⟩
    · rw [List.length_map]; exact Nat.lt_of_le_of_lt (show zs.length ≤ 1000 by omega) (by decide)
    · rw [upd_same, List.map_append]; rfl
    · rw [List.length_append, hl]; rfl
    · intro z hz'
      rcases List.mem_append.mp hz' with h | h
      · exact hz z h
      · rw [List.mem_singleton.mp h]
        exact ⟨rfl, low_one (by omega)⟩
  · rintro H1 ⟨zs, hD1, hl, hz, b1, st1⟩
    have j := join_low hz
    refine ⟨_, _, zs, rfl, rfl, .inl (SqL.of hD1), ?_, q _ _ b1 st1 (by rw [j.1, hl]) j.2⟩
    rw [sum_ones fun z h => (hz z h).1]
    show zs.length + zs.length * 0 ≤ _
    omega

/-! _law_names -/
def sp_u_law_names : Sp := fun vs H Q _ => ∃ (s l : Addr) (m : Nat), vs = [.ref s, .int (m : Int)] ∧ St H s l ∧ m ≤ 26 ∧ ∀ p fs H', But s H H' → St H' s l → H p = none → H' p = some (.lst (fs.map V.str)) → fs.length = m → Names fs → Q (.ref p) H'
theorem ok_u_law_names (T : Tx K mg A) : FnOk P w K mg base CX0 (5) A.a_u_law_names A.d_u_law_names ["state", "count"] sp_u_law_names := by
  have G_u_law_draw := ok_u_law_draw (P := P) (w := w) (base := base) T
  have G_u_law_word := ok_u_law_word (P := P) (w := w) (base := base) T
  refine T.F_u_law_names.ok sc_u_law_names (fun vs H Q E h => ?_) (fun cdv Ar outer s0 H vs Q E hr h => ?_)
  · obtain ⟨s, l, m, rfl, _⟩ := h; rfl
  obtain ⟨s, l, m, rfl, hst, hm, q⟩ := h
  refine ⟨_, (pss_cons (ps_set (i := 2) sc_u_law_names.nd rfl (Or.inr rfl) pe_str)
    (pss_cons (ps_set (i := 3) sc_u_law_names.nd rfl (Or.inr rfl) (pe_call G_u_law_word (hr.mono (by omega)) rfl T.m_u_law_word T.F_u_law_word.kp T.b_u_law_word .nil pass0 (pa_cons (pv 0) (pa_cons (pe_call G_u_law_draw (hr.mono (by omega)) rfl T.m_u_law_draw T.F_u_law_draw.kp T.b_u_law_draw .nil pass0 (pa_cons (pv 0) (pa_cons pe_int pa_nil))) pa_nil))))
    (pss_cons (ps_set (i := 4) sc_u_law_names.nd rfl (Or.inr rfl) (pe_call G_u_law_word (hr.mono (by omega)) rfl T.m_u_law_word T.F_u_law_word.kp T.b_u_law_word .nil pass0 (pa_cons (pv 0) (pa_cons (pe_call G_u_law_draw (hr.mono (by omega)) rfl T.m_u_law_draw T.F_u_law_draw.kp T.b_u_law_draw .nil pass0 (pa_cons (pv 0) (pa_cons pe_int pa_nil))) pa_nil))))
    (pss_cons (ps_set (i := 5) sc_u_law_names.nd rfl (Or.inr rfl) (pe_call G_u_law_draw (hr.mono (by omega)) rfl T.m_u_law_draw T.F_u_law_draw.kp T.b_u_law_draw .nil pass0 (pa_cons (pv 0) (pa_cons pe_int pa_nil))))
    (pss_one (ps_ret (pe_lc (own := [("k", 6)]) (by rfl) sc_u_law_names.nd (pi_range1 rfl T.n_range (pa_cons (pv 1) pa_nil)) (blkOk_by (own := [("k", 6)]) (N := ["state", "count", "letters", "before", "behind", "first", "k"]) (sc := defScope s_u_law_names) (by decide +kernel)) (fun _ _ _ _ _ => (pg_name (i := 6) sc_u_law_names.nd rfl (Or.inl rfl))) (fun _ _ _ _ _ => pts_nil) (fun _ _ _ _ _ => (pe_op op_add_str (pe_op op_add_str (pv 3) (pe_ix ix_str (pv 2) (pe_op op_mod (pe_callTy call_int1 (by rfl) T.n_int boot_int (pa_cons (pe_op op_add (pv 5) (pe_op op_mul pe_int (pv 6))) pa_nil)) pe_int) (fun _ _ => rfl))) (pv 4)))))))))), ?_⟩
  walk_at "rd"
  refine ⟨s, l, 4, rfl, hst, by decide, by decide, fun r1 H1 r10 r11 b1 st1 => ?_⟩
  obtain ⟨k1, rfl⟩ := Int.eq_ofNat_of_zero_le r10
  refine ⟨s, l, k1, rfl, st1, by omega, fun z1 H2 b2 st2 zl1 zw1 => ?_⟩
  walk_at "rd"
  refine ⟨s, l, 4, rfl, st2, by decide, by decide, fun r3 H3 r30 r31 b3 st3 => ?_⟩
  obtain ⟨k3, rfl⟩ := Int.eq_ofNat_of_zero_le r30
  refine ⟨s, l, k3, rfl, st3, by omega, fun z4 H4 b4 st4 zl4 zw4 => ?_⟩
  walk_at "rd"
  refine ⟨s, l, 26, rfl, st4, by decide, by decide, fun r5 H5 r50 r51 b5 st5 => ?_⟩
  obtain ⟨f, rfl⟩ := Int.eq_ofNat_of_zero_le r50
  walk_at "rd"
  refine ⟨by omega, by omega, fun D hD => ?_⟩
  have bb := b1.trans (b2.trans (b3.trans (b4.trans b5)))
  obtain ⟨sD, lD⟩ := st5.free hD
  have hD0 : H D = none := by
    cases e : H D with
    | none => rfl
    | some o =>
      have := bb _ _ e sD.symm
      rw [hD] at this; cases this
  refine lc_range (lo := 0) (n := m) (fun i H' => H' D = some (.lst (((List.range i).map (nameAt z1 z4 f)).map V.str)) ∧ But s H5 H' ∧ St H' s l) ?_ ?_ ?_
  · exact ⟨upd_same, but_same (same_new hD _), st5.upd sD lD⟩
  · rintro i H6 hi ⟨hD6, b6, st6⟩
    refine ⟨rfl, ?_⟩
    walk_at "rd"
    have e : ((f : Int) + 3 * (0 + (i : Int))) % 26 = (((f + 3 * i) % 26 : Nat) : Int) := by omega
    refine ⟨_, _, 97 + (f + 3 * i) % 26, rfl, rfl, by decide, ?_, ?_⟩
    · show atI _ (((f : Int) + 3 * (0 + (i : Int))) % 26) = _
      rw [e]
      exact atI_nat (abc _ (Nat.mod_lt _ (by decide)))
    refine ⟨_, _, rfl, rfl, ?_, ?_⟩
    · show z1.length + 1 ≤ _
      exact Nat.le_trans (show z1.length + 1 ≤ 4 by omega) (by decide)
    walk_at "rd"
    refine ⟨?_, ?_⟩
    · rw [len_app]
      show z1.length + 1 + z4.length ≤ _
      exact Nat.le_trans (show z1.length + 1 + z4.length ≤ 10 by omega) (by decide)
    refine ⟨_, hD6, ?_, ?_, b6.mut hD _, st6.upd sD lD⟩
    · rw [List.length_map, List.length_map, List.length_range]; exact Nat.lt_of_le_of_lt (show i ≤ 26 by omega) (by decide)
    · rw [upd_same, List.range_succ, List.map_append, List.map_append]; rfl
  · rintro H6 ⟨hD6, b6, st6⟩
    refine q D _ H6 (bb.trans b6) st6 hD0 hD6 ?_ (names_ok zw1 zw4 (by omega) (by omega) hm)
    rw [List.length_map, List.length_range]

/-! _law_operations -/
def sp_u_law_operations : Sp := fun vs H Q _ => ∃ (s l : Addr), vs = [.ref s] ∧ St H s l ∧ ∀ o fs H', But s H H' → St H' s l → H o = none → Ops H' o fs → Q (.ref o) H'
theorem ok_u_law_operations (T : Tx K mg A) : FnOk P w K mg base CX0 (6) A.a_u_law_operations A.d_u_law_operations ["state"] sp_u_law_operations := by
  have G_u_law_draw := ok_u_law_draw (P := P) (w := w) (base := base) T
  have G_u_law_names := ok_u_law_names (P := P) (w := w) (base := base) T
  refine T.F_u_law_operations.ok sc_u_law_operations (fun vs H Q E h => ?_) (fun cdv Ar outer s0 H vs Q E hr h => ?_)
  · obtain ⟨s, l, rfl, _⟩ := h; rfl
  obtain ⟨s, l, rfl, hst, q⟩ := h
  refine ⟨_, (pss_cons (ps_set (i := 1) sc_u_law_operations.nd rfl (Or.inr rfl) (pe_call G_u_law_names (hr.mono (by omega)) rfl T.m_u_law_names T.F_u_law_names.kp T.b_u_law_names .nil pass0 (pa_cons (pv 0) (pa_cons pe_int pa_nil))))
    (pss_cons (ps_set (i := 2) sc_u_law_operations.nd rfl (Or.inr rfl) (pe_lst (pa_cons pe_int (pa_cons pe_int (pa_cons pe_int (pa_cons pe_int (pa_cons pe_int pa_nil)))))))
    (pss_one (ps_ret (pe_lc (own := [("k", 3)]) (by rfl) sc_u_law_operations.nd (pi_range1 rfl T.n_range (pa_cons (pe_op op_add pe_int (pe_call G_u_law_draw (hr.mono (by omega)) rfl T.m_u_law_draw T.F_u_law_draw.kp T.b_u_law_draw .nil pass0 (pa_cons (pv 0) (pa_cons pe_int pa_nil)))) pa_nil)) (blkOk_by (own := [("k", 3)]) (N := ["state", "names", "arities", "k"]) (sc := defScope s_u_law_operations) (by decide +kernel)) (fun _ _ _ _ _ => (pg_name (i := 3) sc_u_law_operations.nd rfl (Or.inl rfl))) (fun _ _ _ _ _ => pts_nil) (fun _ _ _ _ _ => (pe_tup (pa_cons (pe_ix (r := rIxL K) ix_list (pv 1) (pv 3) (fun _ _ => rfl)) (pa_cons (pe_ix (r := rIxL K) ix_list (pv 2) (pv 3) (fun _ _ => rfl)) pa_nil))))))))), ?_⟩
  walk_at "rd"
  refine ⟨s, l, 5, rfl, hst, by decide, fun p fs H1 b1 st1 np hp hl hn => ?_⟩
  walk_at "rd"
  refine ⟨by show 5 ≤ sizeLine; decide, ?_⟩
  first | intro ra n2 | refine fun ra n2 => ?_
  generalize ehn : upd H1 ra _ = H2
  have s2 := J.al_same n2 ehn
  have h2 := J.al_at ehn
  clear ehn
  walk_at "rd"
  have st2 := st1.same s2
  refine ⟨s, l, 2, rfl, st2, by decide, by decide, fun r H3 r0 r1 b3 st3 => ?_⟩
  obtain ⟨n, rfl⟩ := Int.eq_ofNat_of_zero_le r0
  walk_at "rd"
  refine ⟨by omega, by omega, fun D hD => ?_⟩
  obtain ⟨sD, lD⟩ := st3.free hD
  have bb := b1.trans ((but_same s2).trans b3)
  have hD0 : H D = none := by
    cases e : H D with
    | none => rfl
    | some o =>
      have := bb _ _ e sD.symm
      rw [hD] at this; cases this
  have nra : ra ≠ s := (st1.free n2).1.symm
  have hp3 : H3 p = some (.lst (fs.map V.str)) := b3 _ _ (s2 _ _ hp) fun z => by
    rw [z] at np
    exact (hst.free np).1 rfl
  have hra3 := b3 _ _ h2 nra
  refine lc_range (lo := 0) (n := 4 + n) (fun i H' => ∃ as : List Addr, H' D = some (.lst (as.map V.ref)) ∧ as.length = i ∧ Same H3 H' ∧ ∀ (k : Nat) (f : Str) (a : Addr), fs[k]? = some f → as[k]? = some a → H' a = some (.tup [.str f, .int (ar k)])) ?_ ?_ ?_
  · exact ⟨[], upd_same, rfl, same_new hD _, fun k f a _ e => by simp at e⟩
  · rintro i H6 hi ⟨as, hD6, hl6, s6, ht⟩
    refine ⟨rfl, ?_⟩
    have hi5 : i < fs.length := by omega
    have gf : (fs.map V.str)[i]? = some (.str fs[i]) := by rw [List.getElem?_map, List.getElem?_eq_getElem hi5]; rfl
    have e0 : (0 : Int) + (i : Int) = (i : Int) := by omega
    walk_at "rd"
    refine ⟨p, _, _, _, rfl, rfl, SqL.of (s6 _ _ hp3), by rw [e0]; exact atI_nat gf, ?_⟩
    walk_at "rd"
    have ga : ([.int 0, .int 0, .int 1, .int 2, .int 3] : List V)[i]? = some (.int (ar i)) := by
      match i, hi5, hl with
      | 0, _, _ => rfl
      | 1, _, _ => rfl
      | 2, _, _ => rfl
      | 3, _, _ => rfl
      | 4, _, _ => rfl
      | j + 5, h5, hl => omega
    refine ⟨ra, _, _, _, rfl, rfl, SqL.of (s6 _ _ hra3), by rw [e0]; exact atI_nat ga, ?_⟩
    walk_at "rd"
    refine ⟨by show 2 ≤ sizeLine; decide, ?_⟩
    first | intro t n7 | refine fun t n7 => ?_
    generalize ehn : upd H6 t _ = H7
    have s7 := J.al_same n7 ehn
    have h7 := J.al_at ehn
    clear ehn
    refine ⟨_, s7 _ _ hD6, ?_, as ++ [t], ?_, ?_, ?_, ?_⟩
    · rw [List.length_map]; exact Nat.lt_of_le_of_lt (show as.length ≤ 5 by omega) (by decide)
    · rw [upd_same, List.map_append]; rfl
    · rw [List.length_append, hl6]; rfl
    · exact same_mut (s6.trans s7) hD _
    · intro k f a hf ha
      have ntD : ∀ b xs, H7 b = some (.tup xs) → b ≠ D := fun b xs e z => by
        rw [z, s7 _ _ hD6] at e; cases e
      by_cases hk : k < as.length
      · rw [List.getElem?_append_left hk] at ha
        have q := s7 _ _ (ht k f a hf ha)
        rw [upd_ne (ntD _ _ q)]; exact q
      · have ek : k = i := by
          have := (List.getElem?_eq_some_iff.mp ha).1
          rw [List.length_append, List.length_singleton] at this
          omega
        subst ek
        rw [List.getElem?_append_right (by omega), hl6, Nat.sub_self] at ha
        have ea : t = a := by simpa using ha
        subst ea
        rw [List.getElem?_eq_getElem hi5] at hf
        injection hf with hf
        subst hf
        rw [upd_ne (ntD _ _ h7)]; exact h7
  · rintro H6 ⟨as, hD6, hl6, s6, ht⟩
    have hn' : Names (fs.take (4 + n)) := ⟨fun f h => hn.low f (List.mem_of_mem_take h), fun f h => hn.lo f (List.mem_of_mem_take h), fun f h => hn.hi f (List.mem_of_mem_take h), hn.nd.sublist (List.take_sublist _ _)⟩
    have hl' : (fs.take (4 + n)).length = 4 + n := by rw [List.length_take, hl]; omega
    refine q D (fs.take (4 + n)) H6 (bb.trans (but_same s6)) (st3.same s6) hD0 ⟨hn', by omega, as, hD6, by omega, fun k f a hf ha => ?_⟩
    have hk : k < 4 + n := by
      have := (List.getElem?_eq_some_iff.mp ha).1
      omega
    rw [List.getElem?_take_of_lt hk] at hf
    exact ht k f a hf ha

/-! _law_leaf -/
def sp_u_law_leaf : Sp := fun vs H Q _ => ∃ (s l o : Addr) (fs : List Str) (B : Int), vs = [.ref s, .ref o, .int B] ∧ St H s l ∧ Ops H o fs ∧ 0 ≤ B ∧ B < 1073741824 ∧ ∀ v t H', But s H H' → St H' s l → TmIn H' t v → t.wf fs B → t.dep ≤ 1 → t.sz = 1 → Q v H'
theorem ok_u_law_leaf (T : Tx K mg A) : FnOk P w K mg base CX0 (4) A.a_u_law_leaf A.d_u_law_leaf ["state", "operations", "count"] sp_u_law_leaf := by
  have G_u_law_draw := ok_u_law_draw (P := P) (w := w) (base := base) T
  refine T.F_u_law_leaf.ok sc_u_law_leaf (fun vs H Q E h => ?_) (fun cdv Ar outer s0 H vs Q E hr h => ?_)
  · obtain ⟨s, l, o, fs, B, rfl, _⟩ := h; rfl
  obtain ⟨s, l, o, fs, B, rfl, hst, hop, B0, B1, q⟩ := h
  refine ⟨_, (pss_cons (ps_if (PW.pt (pw_and (pt_cmpR op_gt (pv 2) pe_int (nomark _)) (pw_and1 (pt_cmpR op_eq (pe_call G_u_law_draw (hr.mono (by omega)) rfl T.m_u_law_draw T.F_u_law_draw.kp T.b_u_law_draw .nil pass0 (pa_cons (pv 0) (pa_cons pe_int pa_nil))) pe_int (nomark _))))) (pss_one (ps_ret (pe_call G_u_law_draw (hr.mono (by omega)) rfl T.m_u_law_draw T.F_u_law_draw.kp T.b_u_law_draw .nil pass0 (pa_cons (pv 0) (pa_cons (pv 2) pa_nil))))) pss_nil)
    (pss_one (ps_ret (pe_tup (pa_cons (pe_ix (r := rIxT K) ix_tup (pe_ix (r := rIxL K) ix_list (pv 1) (pe_call G_u_law_draw (hr.mono (by omega)) rfl T.m_u_law_draw T.F_u_law_draw.kp T.b_u_law_draw .nil pass0 (pa_cons (pv 0) (pa_cons pe_int pa_nil))) (fun _ _ => rfl)) pe_int (fun _ _ => rfl)) pa_nil))))), ?_⟩
  refine seq_join (fun σ' H' => σ' = [some (.ref s), some (.ref o), some (.int B)] ∧ But s H H' ∧ St H' s l) ?_ (fun N cont => ?_)
  · rintro σ' H1 ⟨rfl, b1, st1⟩
    have op1 := hop.but hst b1
    walk_at "rd"
    refine ⟨s, l, 2, rfl, st1, by decide, by decide, fun r H2 r0 r1 b2 st2 => ?_⟩
    have op2 := op1.but st1 b2
    obtain ⟨n, rfl⟩ := Int.eq_ofNat_of_zero_le r0
    obtain ⟨xs, a, f, ho, hl, hx, hf, ha⟩ := op2.get (k := n) (by have := op2.2.1; omega)
    refine ⟨o, _, _, _, rfl, rfl, SqL.of ho, atI_nat hx, ?_⟩
    walk_at "rd"
    refine ⟨by show 1 ≤ sizeLine; decide, ?_⟩
    first | intro p n3 | refine fun p n3 => ?_
    generalize ehn : upd H2 p _ = H3
    have s3 := J.al_same n3 ehn
    have h3 := J.al_at ehn
    clear ehn
    refine q (.ref p) (.app f []) H3 (b1.trans (b2.trans (but_same s3))) (st2.same s3) ⟨p, [], rfl, h3, rfl⟩ ⟨⟨n, hf, ?_⟩, trivial⟩ (Nat.le_refl _) rfl
    show 0 = ar n
    unfold ar
    rw [if_pos (by omega)]
  · walk_at "rd"
    refine ite2 (fun e => ?_) (fun e => ?_)
    · have e := of_decide_eq_true e
      walk_at "rd"
      refine ⟨s, l, 2, rfl, hst, by decide, by decide, fun r H2 r0 r1 b2 st2 => ?_⟩
      walk_at "rd"
      refine ite2 (fun e2 => ?_) (fun e2 => ?_)
      · walk_at "rd"
        refine ⟨s, l, B, rfl, st2, by omega, B1, fun r3 H3 r30 r31 b3 st3 => ?_⟩
        exact q _ (.var r3) H3 (b2.trans b3) st3 rfl ⟨r30, r31⟩ (Nat.le_refl _) rfl
      · exact cont _ _ ⟨rfl, b2, st2⟩
    · exact cont _ _ ⟨rfl, But.refl _ _, hst⟩

/-! _law_term -/
def sp_u_law_term (N : Nat) : Sp := fun vs H Q _ => ∃ (s l o : Addr) (fs : List Str) (B : Int) (h : Nat), h < N ∧ vs = [.ref s, .ref o, .int B, .int (h : Int)] ∧ St H s l ∧ Ops H o fs ∧ 0 ≤ B ∧ B < 1073741824 ∧
  ∀ v t H', But s H H' → St H' s l → TmIn H' t v → t.wf fs B → t.dep ≤ h + 1 → 2 * t.sz + 1 ≤ 3 ^ (h + 1) → Q v H'
theorem st_u_law_term (T : Tx K mg A) (N : Nat) (G_u_law_term : FnOk P w K mg base CX0 (N + 5) A.a_u_law_term A.d_u_law_term ["state", "operations", "count", "height"] (sp_u_law_term N)) : FnOk P w K mg base CX0 (N + 6) A.a_u_law_term A.d_u_law_term ["state", "operations", "count", "height"] (sp_u_law_term (N + 1)) := by
  have G_u_law_draw := ok_u_law_draw (P := P) (w := w) (base := base) T
  have G_u_law_leaf := ok_u_law_leaf (P := P) (w := w) (base := base) T
  refine T.F_u_law_term.ok sc_u_law_term (fun vs H Q E h => ?_) (fun cdv Ar outer s0 H vs Q E hr h => ?_)
  · obtain ⟨s, l, o, fs, B, h, hN, rfl, _⟩ := h; rfl
  obtain ⟨s, l, o, fs, B, h, hN, rfl, hst, hop, B0, B1, q⟩ := h
  refine ⟨_, (pss_cons (ps_if (PW.pt (pw_or (pt_cmpR op_eq (pv 3) pe_int (nomark _)) (pw_or1 (pt_cmpR op_eq (pe_call G_u_law_draw (hr.mono (by omega)) rfl T.m_u_law_draw T.F_u_law_draw.kp T.b_u_law_draw .nil pass0 (pa_cons (pv 0) (pa_cons pe_int pa_nil))) pe_int (nomark _))))) (pss_one (ps_ret (pe_call G_u_law_leaf (hr.mono (by omega)) rfl T.m_u_law_leaf T.F_u_law_leaf.kp T.b_u_law_leaf .nil pass0 (pa_cons (pv 0) (pa_cons (pv 1) (pa_cons (pv 2) pa_nil)))))) pss_nil)
    (pss_cons (ps_asg (pe_ix (r := rIxL K) ix_list (pv 1) (pe_op op_add pe_int (pe_call G_u_law_draw (hr.mono (by omega)) rfl T.m_u_law_draw T.F_u_law_draw.kp T.b_u_law_draw .nil pass0 (pa_cons (pv 0) (pa_cons (pe_op op_sub (pe_callB (r := rLenS K) j_len (by rfl) T.n_len PySem.boot_len (pa_cons (pv 1) pa_nil)) pe_int) pa_nil)))) (fun _ _ => rfl)) (pg_tup (by rfl) (pgs_cons (pg_name (i := 4) sc_u_law_term.nd rfl (Or.inl rfl)) (pgs_cons (pg_name (i := 5) sc_u_law_term.nd rfl (Or.inl rfl)) pgs_nil))))
    (pss_cons (ps_set (i := 6) sc_u_law_term.nd rfl (Or.inl rfl) (pe_tup (pa_cons (pv 4) pa_nil)))
    (pss_cons (ps_for PassesOwn.never rfl (pi_range1 rfl T.n_range (pa_cons (pv 5) pa_nil)) (pg_name (i := 7) sc_u_law_term.nd rfl (Or.inl rfl)) (pss_one (ps_set (i := 6) sc_u_law_term.nd rfl (Or.inl rfl) (pe_op (r := rCatT K) op_catT (pv 6) (pe_tup (pa_cons (pe_call G_u_law_term (hr.mono (by omega)) rfl T.m_u_law_term T.F_u_law_term.kp T.b_u_law_term .nil pass0 (pa_cons (pv 0) (pa_cons (pv 1) (pa_cons (pv 2) (pa_cons (pe_op op_sub (pv 3) pe_int) pa_nil))))) pa_nil))))))
    (pss_one (ps_ret (pv 6))))))), ?_⟩
  refine seq_join (fun σ' H' => σ' = [some (.ref s), some (.ref o), some (.int B), some (.int (h : Int)), none, none, none, none] ∧ But s H H' ∧ St H' s l ∧ 1 ≤ h) ?_ (fun N' cont => ?_)
  · rintro σ' H1 ⟨rfl, b1, st1, h1⟩
    have op1 := hop.but hst b1
    have hfl := op1.2.1
    obtain ⟨xs1, _, _, ho1, hxl, _⟩ := op1.get (k := 0) (by omega)
    walk_at "rd"
    refine ⟨s, l, _, rfl, st1, by show (1 : Int) ≤ (xs1.length : Int) - 2; omega, by show (xs1.length : Int) - 2 < _; omega, fun r H2 r0 r1 b2 st2 => ?_⟩
    have r1 : r < (xs1.length : Int) - 2 := r1
    have op2 := op1.but st1 b2
    obtain ⟨n, rfl⟩ := Int.eq_ofNat_of_zero_le r0
    obtain ⟨xs, a, f, ho, hl, hx, hf, ha⟩ := op2.get (k := n + 2) (by omega)
    have e2 : (2 : Int) + (n : Int) = ((n + 2 : Nat) : Int) := by omega
    refine ⟨_, _, rfl, rfl, ?_⟩
    refine ⟨o, _, _, _, rfl, rfl, SqL.of ho, by rw [e2]; exact atI_nat hx, ?_⟩
    refine ⟨a, _, rfl, SqT.of ha, rfl, _, _, rfl, _, _, rfl, rfl, ?_⟩
    walk_at "rd"
    refine ⟨by show 1 ≤ sizeLine; decide, ?_⟩
    first | intro p n3 | refine fun p n3 => ?_
    generalize ehn : upd H2 p _ = H3
    have s3 := J.al_same n3 ehn
    have h3 := J.al_at ehn
    clear ehn
    have har : ar (n + 2) = n + 1 := by unfold ar; rw [if_neg (by omega)]; rfl
    have st3 := st2.same s3
    have op3 := op2.same s3
    walk_at "rd"
    refine ⟨by omega, by omega, for_range (lo := 0) (n := ar (n + 2)) (fun i σ' H' => ∃ p ts vs x, σ' = [some (.ref s), some (.ref o), some (.int B), some (.int (h : Int)), some (.str f), some (.int (ar (n + 2) : Int)), some (.ref p), x] ∧ H' p = some (.tup (.str f :: vs)) ∧ TmsIn H' ts vs ∧ ts.length = i ∧ (∀ t ∈ ts, t.wf fs B ∧ t.dep ≤ h ∧ 2 * t.sz + 1 ≤ 3 ^ h) ∧ But s H3 H' ∧ St H' s l) ?_ ?_ ?_⟩
    · exact ⟨p, [], [], none, rfl, h3, rfl, rfl, (fun t ht => nomatch ht), But.refl _ _, st3⟩
    · rintro i σ' H4 hi ⟨p, ts, vs, x, rfl, hp, hts, hl', hw, b4, st4⟩
      walk_at "rd"
      refine ⟨s, l, o, fs, B, h - 1, by omega, by have e : ((h - 1 : Nat) : Int) = (h : Int) - 1 := by omega
                                                  rw [e]; rfl, st4, op3.but st3 b4, B0, B1, fun v t H5 b5 st5 ht htw htd hts' => ?_⟩
      refine ⟨by show 1 ≤ sizeLine; decide, ?_⟩
      first | intro u n6 | refine fun u n6 => ?_
      generalize ehn : upd H5 u _ = H6
      have s6 := J.al_same n6 ehn
      have h6 := J.al_at ehn
      clear ehn
      have tu45 := st4.tu b5
      have hlen : vs.length = i := by rw [hts.length, hl']
      refine ⟨p, u, _, _, rfl, rfl, SqT.of (s6 _ _ (tu45 _ _ hp)), SqT.of h6, List.cons_ne_nil _ _, ?_, fun z => absurd z (List.cons_ne_nil _ _), fun _ => ?_⟩
      · rw [List.length_cons, hlen]
        exact Nat.le_trans (show i + 1 + 1 ≤ 10 by omega) (by decide)
      first | intro y n7 | refine fun y n7 => ?_
      generalize ehn : upd H6 y _ = H7
      have s7 := J.al_same n7 ehn
      have h7 := J.al_at ehn
      clear ehn
      have tu67 : Tu H4 H7 := tu45.trans ((tu_same s6).trans (tu_same s7))
      refine ⟨y, ts ++ [t], vs ++ [v], _, rfl, h7, (hts.tu tu67).append (TmsIn.one ((ht.tu (tu_same s6)).tu (tu_same s7))), ?_, ?_, b4.trans (b5.trans ((but_same s6).trans (but_same s7))), (st5.same s6).same s7⟩
      · rw [List.length_append, hl']; rfl
      · intro t' ht'
        rcases List.mem_append.mp ht' with z | z
        · exact hw t' z
        · rw [List.mem_singleton.mp z]
          rw [show h - 1 + 1 = h by omega] at hts' htd
          exact ⟨htw, htd, hts'⟩
    · rintro σ' H4 ⟨p, ts, vs, x, rfl, hp, hts, hl', hw, b4, st4⟩
      walk_at "rd"
      refine q (.ref p) (.app f ts) H4 (b1.trans (b2.trans ((but_same s3).trans b4))) st4 ⟨p, vs, rfl, hp, hts⟩ ⟨⟨n + 2, hf, hl'⟩, Tm.wfs_of fun t ht => (hw t ht).1⟩ ?_ ?_
      · have := Tm.deps_le fun t ht => (hw t ht).2.1
        show 1 + Tm.deps ts ≤ h + 1
        omega
      · exact Tm.szs_three (by omega) fun t ht => (hw t ht).2.2
  · walk_at "rd"
    refine ite2 (fun e => ?_) (fun e => ?_)
    · walk_at "rd"
      refine ⟨s, l, o, fs, B, rfl, hst, hop, B0, B1, fun v t H1 b1 st1 ht hw hd hz => q v t H1 b1 st1 ht hw (by omega) (by rw [hz]; exact Nat.pow_le_pow_right (by decide : 3 > 0) (show 1 ≤ h + 1 by omega))⟩
    · have e : ¬ V.int (h : Int) = V.int 0 := fun z => e (decide_eq_true z)
      have h1 : 1 ≤ h := by
        rcases Nat.eq_zero_or_pos h with z | z
        · rw [z] at e; exact absurd rfl e
        · exact z
      walk_at "rd"
      refine ⟨s, l, 4, rfl, hst, by decide, by decide, fun r H2 r0 r1 b2 st2 => ?_⟩
      walk_at "rd"
      refine ite2 (fun e => ?_) (fun e => ?_)
      · walk_at "rd"
        refine ⟨s, l, o, fs, B, rfl, st2, hop.but hst b2, B0, B1, fun v t H1 b1 st1 ht hw hd hz => q v t H1 (b2.trans b1) st1 ht hw (by omega) (by rw [hz]; exact Nat.pow_le_pow_right (by decide : 3 > 0) (show 1 ≤ h + 1 by omega))⟩
      · exact cont _ _ ⟨rfl, b2, st2, h1⟩

theorem all_u_law_term (T : Tx K mg A) : ∀ N : Nat, FnOk P w K mg base CX0 (N + 5) A.a_u_law_term A.d_u_law_term ["state", "operations", "count", "height"] (sp_u_law_term N)
  | 0 => fn_none fun vs H Q E h => by obtain ⟨s, l, o, fs, B, h, hN, _⟩ := h; omega
  | N + 1 => st_u_law_term T N (all_u_law_term T N)
theorem ok_u_law_term (T : Tx K mg A) : FnOk P w K mg base CX0 10 A.a_u_law_term A.d_u_law_term ["state", "operations", "count", "height"] (sp_u_law_term 5) := all_u_law_term T 5

/-! _law_positions -/
def sp_u_law_positions (N : Nat) : Sp := fun vs H Q _ => ∃ (v : V) (t : Tm), vs = [v] ∧ TmIn H t v ∧ t.sz ≤ 100000 ∧ t.dep ≤ N ∧ ∀ p H', Same H H' → H p = none → PosIn H' p (poss t) → Q (.ref p) H'
theorem st_u_law_positions (T : Tx K mg A) (N : Nat) (G_u_law_positions : FnOk P w K mg base CX0 (N + 1) A.a_u_law_positions A.d_u_law_positions ["term"] (sp_u_law_positions N)) : FnOk P w K mg base CX0 (N + 2) A.a_u_law_positions A.d_u_law_positions ["term"] (sp_u_law_positions (N + 1)) := by

  refine T.F_u_law_positions.ok sc_u_law_positions (fun vs H Q E h => ?_) (fun cdv Ar outer s0 H vs Q E hr h => ?_)
  · obtain ⟨v, t, rfl, _⟩ := h; rfl
  obtain ⟨v, t, rfl, ht, hz, hd, q⟩ := h
  refine ⟨_, (pss_cons (ps_set (i := 1) sc_u_law_positions.nd rfl (Or.inl rfl) (pe_lst (pa_cons (pe_tup pa_nil) pa_nil)))
    (pss_cons (ps_if (pt_val (pe_callB (r := rIsi K) call_isi (by rfl) T.n_isinstance boot_isinstance (pa_cons (pv 0) (pa_cons (pe_bltn (v := .ty "int") (by rfl) T.n_int boot_int rfl) pa_nil)))) (pss_one (ps_ret (pv 1))) pss_nil)
    (pss_cons (ps_for PassesOwn.never rfl (pi_range2 rfl T.n_range (pa_cons pe_int (pa_cons (pe_callB (r := rLenS K) j_len (by rfl) T.n_len PySem.boot_len (pa_cons (pv 0) pa_nil)) pa_nil))) (pg_name (i := 2) sc_u_law_positions.nd rfl (Or.inl rfl)) (pss_one (ps_for PassesOwn.never rfl (pi_list (pe_call G_u_law_positions (hr.mono (by omega)) rfl T.m_u_law_positions T.F_u_law_positions.kp T.b_u_law_positions .nil pass0 (pa_cons (pe_ix (r := rIxT K) ix_tup (pv 0) (pv 2) (fun _ _ => rfl)) pa_nil))) (pg_name (i := 3) sc_u_law_positions.nd rfl (Or.inl rfl)) (pss_one (ps_expr (pe_bm PySem.F.plainAttrs_list PySem.F.slot_list_append PySem.F.type_list_append mt_append (pv 1) (pa_cons (pe_op (r := rCatT K) op_catT (pe_tup (pa_cons (pv 2) pa_nil)) (pv 3)) pa_nil)))))))
    (pss_one (ps_ret (pv 1)))))), ?_⟩
  walk_at "rd"
  refine ⟨by show 0 ≤ sizeLine; decide, ?_⟩
  first | intro e n1 | refine fun e n1 => ?_
  generalize ehn : upd H e _ = H1
  have s1 := J.al_same n1 ehn
  have h1 := J.al_at ehn
  clear ehn
  refine ⟨by show 1 ≤ sizeLine; decide, ?_⟩
  first | intro p n2 | refine fun p n2 => ?_
  generalize ehn : upd H1 p _ = H2
  have s2 := J.al_same n2 ehn
  have h2 := J.al_at ehn
  clear ehn
  have hp0 : PosIn H2 p [[]] := ⟨[e], h2, rfl, fun k a r ea er => by
    have hk : k < 1 := (List.getElem?_eq_some_iff.mp ea).1
    have : k = 0 := by omega
    subst this
    cases ea; cases er
    exact s2 _ _ h1⟩
  have np0 : H p = none := s1.free n2
  cases t with
  | var n =>
    cases (show v = .int n from ht)
    walk_at "ri"
    exact q p H2 (s1.trans s2) np0 hp0
  | app f ts =>
    obtain ⟨a, vs, rfl, ha, hts⟩ := ht
    have hvl := hts.length
    have hz : 1 + Tm.szs ts ≤ 100000 := hz
    have hll := Tm.len_le ts
    have ha2 := s2 _ _ (s1 _ _ ha)
    have hts2 := (hts.tu (tu_same s1)).tu (tu_same s2)
    walk_at "ri"
    refine ⟨1, _, rfl, ⟨by decide, by decide, ?_, ?_⟩, ?_⟩
    · show -(2 ^ 62) ≤ ((vs.length + 1 : Nat) : Int); omega
    · show ((vs.length + 1 : Nat) : Int) < 2 ^ 62; omega
    have en : (((V.str f :: vs).length : Int) - 1).toNat = ts.length := by
      show (((vs.length + 1 : Nat) : Int) - 1).toNat = _
      omega
    rw [en]
    refine for_range (lo := 1) (n := ts.length) (fun i σ' H' => ∃ x y, σ' = [some (.ref a), some (.ref p), x, y] ∧ But p H2 H' ∧ PosIn H' p ([] :: posss 1 (ts.take i))) ?_ ?_ ?_
    · exact ⟨none, none, rfl, But.refl _ _, hp0⟩
    · rintro i σ' H' hi ⟨x, y, rfl, b, hp⟩
      have gt := List.getElem?_eq_getElem hi
      obtain ⟨v1, gv1, hv1⟩ := hts2.get' gt
      have mt : ts[i] ∈ ts := List.getElem_mem hi
      have hst := Tm.sz_arg mt
      have tub : Tu H2 H' := but_tu b (lst_not_tup h2)
      have e1 : (1 : Int) + (i : Int) = ((i + 1 : Nat) : Int) := by omega
      have gt1 : atI (V.str f :: vs) ((1 : Int) + (i : Int)) = some v1 := by rw [e1]; exact atI_nat (j := i + 1) (by rw [List.getElem?_cons_succ]; exact gv1)
      have ha3 := tub _ _ ha2
      walk_at "rd"
      refine ⟨v1, ts[i], rfl, hv1.tu tub, by omega, TmIn.dep_arg hd mt, fun p3 H3 s3 n3 hp3 => ?_⟩
      have hpp := hp.same s3
      have n33 : p3 ≠ p := fun z => by
        obtain ⟨as, e, _⟩ := hp
        rw [z, e] at n3; cases n3
      obtain ⟨as3, g3, l3, f3⟩ := hp3
      refine ⟨_, rfl, ⟨_, SqL.of g3⟩, for_list (K := K) (a := p3) (xs := as3.map V.ref) (fun j σ' H'' => ∃ y, σ' = [some (.ref a), some (.ref p), some (.int (1 + (i : Int))), y] ∧ But p H3 H'' ∧ PosIn H'' p ([] :: posss 1 (ts.take i) ++ ((poss ts[i]).take j).map (fun q => (1 + (i : Int)) :: q))) ?_ ?_ ?_ ?_⟩
      · exact ⟨_, rfl, But.refl _ _, by rw [List.take_zero, List.map_nil, List.append_nil]; exact hpp⟩
      · rintro j σ' H'' hj ⟨y, rfl, b4, hp4⟩
        exact SqL.of (b4 _ _ g3 n33)
      · rintro j y2 σ' H'' hj ⟨y, rfl, b4, hp4⟩
        have hj' : j < as3.length := by
          have := (List.getElem?_eq_some_iff.mp hj).1
          rw [List.length_map] at this; exact this
        have gj := List.getElem?_eq_getElem (l := poss ts[i]) (i := j) (by omega)
        have ej : y2 = .ref as3[j] := by
          rw [List.getElem?_map, List.getElem?_eq_getElem hj'] at hj
          exact (Option.some.inj hj).symm
        subst ej
        have hin := f3 j _ _ (List.getElem?_eq_getElem hj') gj
        have npl : ∀ xs, H3 p ≠ some (.tup xs) := by
          obtain ⟨as, e, _⟩ := hpp
          exact lst_not_tup e
        have tu4 : Tu H3 H'' := but_tu b4 npl
        obtain ⟨as4, g4, l4, f4⟩ := hp4
        walk_at "rd"
        refine ⟨.inl ⟨rfl, _, SqL.of g4⟩, ?_⟩
        walk_at "rd"
        refine ⟨by show 1 ≤ sizeLine; decide, ?_⟩
        first | intro t1 n5 | refine fun t1 n5 => ?_
        generalize ehn : upd H'' t1 _ = H5
        have s5 := J.al_same n5 ehn
        have h5 := J.al_at ehn
        clear ehn
        have hin5 := s5 _ _ (tu4 _ _ hin)
        walk_at "rd"
        have hq := (poss_is _ _ (List.mem_of_getElem? gj)).2
        have hdt := TmIn.dep_arg hd mt
        have lens : as4.length ≤ 100001 := by
          rw [l4, List.length_append, List.length_map, List.length_take, List.length_cons, posss_len]
          have h1 := szs_take ts i
          have h2 := poss_len ts[i]
          have h3 : Tm.szs (ts.take i) + ts[i].sz ≤ Tm.szs ts := by
            have := szs_take ts (i + 1)
            rw [list_take_succ gt, szs_app] at this
            have e : Tm.szs [ts[i]] = ts[i].sz := by show ts[i].sz + 0 = _; omega
            omega
          omega
        have e2 : (poss ts[i]).take (j + 1) = (poss ts[i]).take j ++ [(poss ts[i])[j]] := list_take_succ gj
        have fin : ∀ (b0 : Addr) (H6 : Hp), Same H'' H6 → H6 b0 = some (.tup (((1 + (i : Int)) :: (poss ts[i])[j]).map V.int)) → PosIn (upd H6 p (.lst (as4.map V.ref ++ [.ref b0]))) p ([] :: posss 1 (ts.take i) ++ ((poss ts[i]).take (j + 1)).map (fun q => (1 + (i : Int)) :: q)) := by
          intro b0 H6 s6 h6
          have hp6 := s6 _ _ g4
          rw [e2, List.map_append, ← List.append_assoc]
          refine PosIn.push (as := as4) g4 l4 f4 ((tu_same s6).trans (tu_upd (lst_not_tup hp6))) upd_same ?_
          rw [upd_ne fun z => by rw [z, hp6] at h6; cases h6]
          exact h6
        refine ⟨t1, _, _, _, rfl, rfl, SqT.of h5, SqT.of hin5, List.cons_ne_nil _ _, ?_, fun z => ?_, fun _ => ?_⟩
        · rw [List.length_map]
          show 0 + 1 + _ ≤ _
          have hN : ts[i].dep ≤ 100000 := by have := Tm.dep_le_sz ts[i]; omega
          exact Nat.le_trans (show 0 + 1 + (poss ts[i])[j].length ≤ 100001 by omega) (by decide)
        · have z : (poss ts[i])[j] = [] := List.map_eq_nil_iff.mp z
          refine ⟨p, _, _, rfl, rfl, s5 _ _ g4, by rw [List.length_map]; exact Nat.lt_of_le_of_lt lens (by decide), _, rfl, b4.trans ((but_same s5).trans (but_upd _)), fin t1 H5 s5 ?_⟩
          rw [z]; exact h5
        · first | intro t2 n6 | refine fun t2 n6 => ?_
          generalize ehn : upd H5 t2 _ = H6
          have s6 := J.al_same n6 ehn
          have h6 := J.al_at ehn
          clear ehn
          exact ⟨p, _, _, rfl, rfl, s6 _ _ (s5 _ _ g4), by rw [List.length_map]; exact Nat.lt_of_le_of_lt lens (by decide), _, rfl, b4.trans ((but_same s5).trans ((but_same s6).trans (but_upd _))), fin t2 H6 (s5.trans s6) h6⟩
      · rintro σ' H'' ⟨y, rfl, b4, hp4⟩
        rw [List.length_map, l3, List.take_length] at hp4
        refine ⟨_, _, rfl, b.trans ((but_same s3).trans b4), ?_⟩
        rw [list_take_succ gt, posss_app, List.length_take, Nat.min_eq_left (by omega)]
        show PosIn H'' p ([] :: (posss 1 (ts.take i) ++ ((poss ts[i]).map (fun q => (((1 + i : Nat) : Int)) :: q) ++ [])))
        rw [List.append_nil, show (((1 + i : Nat) : Int)) = 1 + (i : Int) by omega]
        exact hp4
    · rintro σ' H' ⟨x, y, rfl, b, hp⟩
      rw [List.take_length] at hp
      walk_at "rd"
      exact q p H' (b.same (s1.trans s2) np0) np0 hp

theorem all_u_law_positions (T : Tx K mg A) : ∀ N : Nat, FnOk P w K mg base CX0 (N + 1) A.a_u_law_positions A.d_u_law_positions ["term"] (sp_u_law_positions N)
  | 0 => fn_none fun vs H Q E h => by obtain ⟨v, t, _, _, _, hd, _⟩ := h; have := t.dep_pos; omega
  | N + 1 => st_u_law_positions T N (all_u_law_positions T N)
theorem ok_u_law_positions (T : Tx K mg A) : FnOk P w K mg base CX0 61 A.a_u_law_positions A.d_u_law_positions ["term"] (sp_u_law_positions 60) := all_u_law_positions T 60

/-! _law_subterm -/
def sp_u_law_subterm : Sp := fun vs H Q _ => ∃ (v : V) (t u : Tm) (a : Addr) (q : List Int), vs = [v, .ref a] ∧ TmIn H t v ∧ H a = some (.tup (q.map V.int)) ∧ at? q t = some u ∧ ∀ r H', Same H H' → TmIn H' u r → Q r H'
theorem ok_u_law_subterm (T : Tx K mg A) : FnOk P w K mg base CX0 (1) A.a_u_law_subterm A.d_u_law_subterm ["term", "position"] sp_u_law_subterm := by

  refine T.F_u_law_subterm.ok sc_u_law_subterm (fun vs H Q E h => ?_) (fun cdv Ar outer s0 H vs Q E hr h => ?_)
  · obtain ⟨v, t, u, a, q, rfl, _⟩ := h; rfl
  obtain ⟨v, t, u, a, q, rfl, ht, hq, hu', q0⟩ := h
  refine ⟨_, (pss_cons (ps_for PassesOwn.never rfl (pi_tup (pv 1)) (pg_name (i := 2) sc_u_law_subterm.nd rfl (Or.inl rfl)) (pss_one (ps_set (i := 0) sc_u_law_subterm.nd rfl (Or.inl rfl) (pe_ix (r := rIxT K) ix_tup (pv 0) (pv 2) (fun _ _ => rfl)))))
    (pss_one (ps_ret (pv 0)))), ?_⟩
  refine ⟨_, rfl, ?_⟩
  refine ⟨_, rfl, ⟨_, SqT.of hq⟩, for_tup (xs := q.map V.int) (fun i σ' H' => ∃ v1 t1 x, σ' = [some v1, some (.ref a), x] ∧ at? (q.take i) t = some t1 ∧ TmIn H' t1 v1 ∧ Same H H') ?_ ?_ ?_ ?_⟩
  · exact ⟨v, t, none, rfl, rfl, ht, Same.refl _⟩
  · rintro i σ' H' hi ⟨v1, t1, x, rfl, h1, h2, s1⟩
    exact SqT.of (s1 _ _ hq)
  · rintro i y σ' H' hi ⟨v1, t1, x, rfl, h1, h2, s1⟩
    obtain ⟨k, gk, rfl⟩ := map_get hi
    have hi' : i < q.length := (List.getElem?_eq_some_iff.mp gk).1
    obtain ⟨w, hw⟩ := isPos_take ((isPos_at q t).mpr ⟨u, hu'⟩) (i + 1)
    have hw' := hw
    rw [at_step gk h1] at hw'
    obtain ⟨f, ts, c, rfl, k1, k2⟩ := isPos_one.mp ((isPos_at [k] t1).mpr ⟨w, hw'⟩)
    rw [at_cons_app, if_pos k1, k2] at hw'
    cases (show some c = some w from hw')
    obtain ⟨b, vs, rfl, hb, hts⟩ := h2
    obtain ⟨v2, gv2, hv2⟩ := hts.get' k2
    obtain ⟨j, rfl⟩ : ∃ j : Nat, k = ((j + 1 : Nat) : Int) := ⟨(k - 1).toNat, by omega⟩
    have ej : (((j + 1 : Nat) : Int) - 1).toNat = j := by omega
    rw [ej] at gv2
    walk_at "rd"
    refine ⟨b, _, _, v2, rfl, rfl, SqT.of hb, atI_nat (j := j + 1) (by rw [List.getElem?_cons_succ]; exact gv2), ?_⟩
    exact ⟨_, _, _, rfl, hw, hv2, s1⟩
  · rintro σ' H' ⟨v1, t1, x, rfl, h1, h2, s1⟩
    rw [List.length_map, List.take_length, hu'] at h1
    cases h1
    walk_at "rd"
    exact q0 _ _ s1 h2

/-! _law_replace -/
def sp_u_law_replace (N : Nat) : Sp := fun vs H Q _ => ∃ (v w : V) (t u : Tm) (a : Addr) (q : List Int), vs = [v, .ref a, w] ∧ TmIn H t v ∧ TmIn H u w ∧ H a = some (.tup (q.map V.int)) ∧ IsPos q t ∧ q.length < N ∧ t.sz ≤ 100000 ∧ ∀ r H', Same H H' → TmIn H' (rep u q t) r → Q r H'
theorem st_u_law_replace (T : Tx K mg A) (N : Nat) (G_u_law_replace : FnOk P w K mg base CX0 (N + 1) A.a_u_law_replace A.d_u_law_replace ["term", "position", "new"] (sp_u_law_replace N)) : FnOk P w K mg base CX0 (N + 2) A.a_u_law_replace A.d_u_law_replace ["term", "position", "new"] (sp_u_law_replace (N + 1)) := by

  refine T.F_u_law_replace.ok sc_u_law_replace (fun vs H Q E h => ?_) (fun cdv Ar outer s0 H vs Q E hr h => ?_)
  · obtain ⟨v, w, t, u, a, q, rfl, _⟩ := h; rfl
  obtain ⟨v, w, t, u, a, q, rfl, ht, hu', hq, ip, hl, hz, q0⟩ := h
  refine ⟨_, (pss_cons (ps_if (pt_cmpR op_eq (pe_callB (r := rLenS K) j_len (by rfl) T.n_len PySem.boot_len (pa_cons (pv 1) pa_nil)) pe_int (nomark _)) (pss_one (ps_ret (pv 2))) pss_nil)
    (pss_cons (ps_set (i := 3) sc_u_law_replace.nd rfl (Or.inl rfl) (pe_ix (r := rIxT K) ix_tup (pv 1) pe_int (fun _ _ => rfl)))
    (pss_one (ps_ret (pe_op (r := rCatT K) op_catT (pe_op (r := rCatT K) op_catT (pe_slice (r := rSlT K) sl_tup (pv 0) po_none (po_some (pv 3))) (pe_tup (pa_cons (pe_call G_u_law_replace (hr.mono (by omega)) rfl T.m_u_law_replace T.F_u_law_replace.kp T.b_u_law_replace .nil pass0 (pa_cons (pe_ix (r := rIxT K) ix_tup (pv 0) (pv 3) (fun _ _ => rfl)) (pa_cons (pe_slice (r := rSlT K) sl_tup (pv 1) (po_some pe_int) po_none) (pa_cons (pv 2) pa_nil)))) pa_nil))) (pe_slice (r := rSlT K) sl_tup (pv 0) (po_some (pe_op op_add (pv 3) pe_int)) po_none)))))), ?_⟩
  cases q with
  | nil =>
    walk_at "ri"
    exact q0 w H (Same.refl _) hu'
  | cons k q =>
    cases t with
    | var n => exact ip.elim
    | app f ts =>
      obtain ⟨hk1, t, gt, ip⟩ := ip
      obtain ⟨b, vs, rfl, hb, hts⟩ := ht
      obtain ⟨j, rfl⟩ : ∃ j : Nat, k = ((j + 1 : Nat) : Int) := ⟨(k - 1).toNat, by omega⟩
      have ej : (((j + 1 : Nat) : Int) - 1).toNat = j := by omega
      rw [ej] at gt
      have hj : j < ts.length := (List.getElem?_eq_some_iff.mp gt).1
      obtain ⟨v1, gv1, hv1⟩ := hts.get' gt
      have hvl := hts.length
      have hll := Tm.len_le ts
      have hz : 1 + Tm.szs ts ≤ 100000 := hz
      have hst := Tm.sz_arg (List.mem_of_getElem? gt)
      have hq' : H a = some (.tup (.int ((j + 1 : Nat) : Int) :: q.map V.int)) := hq
      walk_at "ri"
      refine ⟨b, _, rfl, SqT.of hb, notLo (k := j + 1) (by rw [List.length_cons]; omega), ?_⟩
      rw [cutLo]
      first | intro p1 n1 | refine fun p1 n1 => ?_
      generalize ehn : upd H p1 _ = H1
      have s1 := J.al_same n1 ehn
      have h1 := J.al_at ehn
      clear ehn
      replace hb := s1 _ _ hb
      have hq1 := s1 _ _ hq'
      walk_at "rd"
      refine ⟨b, _, _, v1, rfl, rfl, SqT.of hb, atI_nat (j := j + 1) (by rw [List.getElem?_cons_succ]; exact gv1), ?_⟩
      walk_at "rd"
      walk_at "sl1"
      first | intro p2 n2 | refine fun p2 n2 => ?_
      generalize ehn : upd H1 p2 _ = H2
      have s2 := J.al_same n2 ehn
      have h2 := J.al_at ehn
      clear ehn
      walk_at "rd"
      have tu2 := tu_same (s1.trans s2)
      refine ⟨v1, w, t, u, p2, q, rfl, hv1.tu tu2, hu'.tu tu2, h2, ip, by rw [List.length_cons] at hl; omega, by omega, fun r H3 s3 hr3 => ?_⟩
      refine ⟨by show 1 ≤ sizeLine; decide, ?_⟩
      first | intro p3 n4 | refine fun p3 n4 => ?_
      generalize ehn : upd H3 p3 _ = H4
      have s4 := J.al_same n4 ehn
      have h4 := J.al_at ehn
      clear ehn
      have tu24 := tu_same (s3.trans s4)
      have h14 := tu24 _ _ (s2 _ _ h1)
      have hb4 := tu24 _ _ (s2 _ _ hb)
      have e1 : (V.str f :: vs).take (j + 1) = .str f :: vs.take j := rfl
      rw [e1] at h14
      refine ⟨p1, p3, _, _, rfl, rfl, SqT.of h14, SqT.of h4, List.cons_ne_nil _ _, ?_, fun z => absurd z (List.cons_ne_nil _ _), fun _ => ?_⟩
      · rw [List.length_cons, List.length_take]
        exact Nat.le_trans (show min j vs.length + 1 + 1 ≤ 100002 by omega) (by decide)
      first | intro p5 n5 | refine fun p5 n5 => ?_
      generalize ehn : upd H4 p5 _ = H5
      have s5 := J.al_same n5 ehn
      have h5 := J.al_at ehn
      clear ehn
      replace hb4 := s5 _ _ hb4
      walk_at "rd"
      have e3 : ((((j + 1 : Nat) : Int)) + 1) = ((j + 2 : Nat) : Int) := by omega
      rw [e3]
      refine ⟨b, _, rfl, SqT.of hb4, notHi (k := j + 2) (by omega) (by rw [List.length_cons]; omega), ?_⟩
      rw [cutHi]
      have e2 : (V.str f :: vs).drop (j + 2) = vs.drop (j + 1) := rfl
      rw [e2]
      first | intro p6 n6 | refine fun p6 n6 => ?_
      generalize ehn : upd H5 p6 _ = H6
      have s6 := J.al_same n6 ehn
      have h6 := J.al_at ehn
      clear ehn
      have tuF : Tu H H4 := tu2.trans tu24
      have h56 := s6 _ _ h5
      have key : ∀ (b0 : Addr) (H7 : Hp), Same H6 H7 → H7 b0 = some (.tup ((.str f :: vs.take j ++ [r]) ++ vs.drop (j + 1))) → Q (.ref b0) H7 := by
        intro b0 H7 s7 h7
        have s47 : Same H4 H7 := s5.trans (s6.trans s7)
        have tu47 := tu_same s47
        refine q0 _ H7 (s1.trans (s2.trans (s3.trans (s4.trans s47)))) ?_
        have er : rep u (((j + 1 : Nat) : Int) :: q) (.app f ts) = .app f (ts.take j ++ [rep u q t] ++ ts.drop (j + 1)) := by
          show Tm.app f (ts.set (((j + 1 : Nat) : Int) - 1).toNat (rep u q (ts.getD (((j + 1 : Nat) : Int) - 1).toNat u))) = _
          rw [ej, List.getD_eq_getElem?_getD, gt, set_cut hj]; rfl
        rw [er]
        refine ⟨b0, vs.take j ++ [r] ++ vs.drop (j + 1), rfl, h7, ?_⟩
        have tu07 := tuF.trans tu47
        exact ((((hts.take j).tu tu07).append (TmsIn.one ((hr3.tu (tu_same s4)).tu tu47)))).append ((hts.drop (j + 1)).tu tu07)
      refine ⟨p5, p6, _, _, rfl, rfl, SqT.of h56, SqT.of h6, List.cons_ne_nil _ _, ?_, fun z => ?_, fun _ => ?_⟩
      · show (V.str f :: vs.take j ++ [r]).length + _ ≤ _
        rw [List.length_append, List.length_cons, List.length_take, List.length_drop]
        exact Nat.le_trans (show min j vs.length + 1 + 1 + (vs.length - (j + 1)) ≤ 200004 by omega) (by decide)
      · refine key p5 H6 (Same.refl _) ?_
        rw [z, List.append_nil]; exact h56
      · first | intro p7 n7 | refine fun p7 n7 => ?_
        generalize ehn : upd H6 p7 _ = H7
        have s7 := J.al_same n7 ehn
        have h7 := J.al_at ehn
        clear ehn
        exact key p7 H7 s7 h7

theorem all_u_law_replace (T : Tx K mg A) : ∀ N : Nat, FnOk P w K mg base CX0 (N + 1) A.a_u_law_replace A.d_u_law_replace ["term", "position", "new"] (sp_u_law_replace N)
  | 0 => fn_none fun vs H Q E h => by obtain ⟨v, w, t, u, a, q, _, _, _, _, _, hl, _⟩ := h; omega
  | N + 1 => st_u_law_replace T N (all_u_law_replace T N)
theorem ok_u_law_replace (T : Tx K mg A) : FnOk P w K mg base CX0 61 A.a_u_law_replace A.d_u_law_replace ["term", "position", "new"] (sp_u_law_replace 60) := all_u_law_replace T 60

/-! _law_variables -/
def sp_u_law_variables (N : Nat) : Sp := fun vs H Q _ => ∃ (v : V) (t : Tm), vs = [v] ∧ TmIn H t v ∧ t.sz ≤ 100000 ∧ t.dep ≤ N ∧ ∀ p H', Same H H' → H p = none → H' p = some (.lst ((vars t).map V.int)) → Q (.ref p) H'
theorem st_u_law_variables (T : Tx K mg A) (N : Nat) (G_u_law_variables : FnOk P w K mg base CX0 (N + 1) A.a_u_law_variables A.d_u_law_variables ["term"] (sp_u_law_variables N)) : FnOk P w K mg base CX0 (N + 2) A.a_u_law_variables A.d_u_law_variables ["term"] (sp_u_law_variables (N + 1)) := by

  refine T.F_u_law_variables.ok sc_u_law_variables (fun vs H Q E h => ?_) (fun cdv Ar outer s0 H vs Q E hr h => ?_)
  · obtain ⟨v, t, rfl, _⟩ := h; rfl
  obtain ⟨v, t, rfl, ht, hz, hd, q⟩ := h
  refine ⟨_, (pss_cons (ps_if (pt_val (pe_callB (r := rIsi K) call_isi (by rfl) T.n_isinstance boot_isinstance (pa_cons (pv 0) (pa_cons (pe_bltn (v := .ty "int") (by rfl) T.n_int boot_int rfl) pa_nil)))) (pss_one (ps_ret (pe_lst (pa_cons (pv 0) pa_nil)))) pss_nil)
    (pss_cons (ps_set (i := 1) sc_u_law_variables.nd rfl (Or.inl rfl) (pe_lst pa_nil))
    (pss_cons (ps_for PassesOwn.never rfl (pi_tup (pe_slice (r := rSlT K) sl_tup (pv 0) (po_some pe_int) po_none)) (pg_name (i := 2) sc_u_law_variables.nd rfl (Or.inl rfl)) (pss_one (ps_for PassesOwn.never rfl (pi_list (pe_call G_u_law_variables (hr.mono (by omega)) rfl T.m_u_law_variables T.F_u_law_variables.kp T.b_u_law_variables .nil pass0 (pa_cons (pv 2) pa_nil))) (pg_name (i := 3) sc_u_law_variables.nd rfl (Or.inl rfl)) (pss_one (ps_if (pt_cmpR (r := rIn K true) op_notIn_seq (pv 3) (pv 1) rfl) (pss_one (ps_expr (pe_bm PySem.F.plainAttrs_list PySem.F.slot_list_append PySem.F.type_list_append mt_append (pv 1) (pa_cons (pv 3) pa_nil)))) pss_nil)))))
    (pss_one (ps_ret (pv 1)))))), ?_⟩
  cases t with
  | var n =>
    cases (show v = .int n from ht)
    walk_at "rd"
    walk_at "isi"
    walk_at "rd"
    refine ⟨by show 1 ≤ sizeLine; decide, ?_⟩
    first | intro p n1 | refine fun p n1 => ?_
    generalize ehn : upd H p _ = H1
    have s1 := J.al_same n1 ehn
    have h1 := J.al_at ehn
    clear ehn
    exact q p H1 s1 n1 h1
  | app f ts =>
    obtain ⟨a, vs, rfl, ha, hts⟩ := ht
    walk_at "rd"
    walk_at "isi"
    walk_at "rd"
    refine ⟨by show 0 ≤ sizeLine; decide, ?_⟩
    first | intro p n1 | refine fun p n1 => ?_
    generalize ehn : upd H p _ = H1
    have s1 := J.al_same n1 ehn
    have h1 := J.al_at ehn
    clear ehn
    have ha1 := s1 _ _ ha
    walk_at "rd"
    walk_at "sl1"
    first | intro u n2 | refine fun u n2 => ?_
    generalize ehn : upd H1 u _ = H2
    have s2 := J.al_same n2 ehn
    have h2 := J.al_at ehn
    clear ehn
    have hts2 := (hts.tu (tu_same s1)).tu (tu_same s2)
    have hp2 := s2 _ _ h1
    have hvl := hts.length
    have hz : 1 + Tm.szs ts ≤ 100000 := hz
    have nup : u ≠ p := fun z => by rw [z, h1] at n2; cases n2
    refine ⟨_, rfl, ⟨_, SqT.of h2⟩, for_tup (xs := vs) (fun i σ' H' => ∃ x x2, σ' = [some (.ref a), some (.ref p), x, x2] ∧ H' p = some (.lst ((adds [] (occs (ts.take i))).map V.int)) ∧ But p H2 H') ?_ ?_ ?_ ?_⟩
    · exact ⟨none, none, rfl, hp2, But.refl _ _⟩
    · rintro i σ' H' hi ⟨x, x2, rfl, hp, b⟩
      exact SqT.of (b _ _ h2 nup)
    · rintro i y σ' H' hi ⟨x, x2, rfl, hp, b⟩
      obtain ⟨t, gt, ht⟩ := hts2.get hi
      have mt : t ∈ ts := List.mem_of_getElem? gt
      have hst := Tm.sz_arg mt
      have tub : Tu H2 H' := but_tu b (lst_not_tup hp2)
      walk_at "rd"
      refine ⟨y, t, rfl, ht.tu tub, by omega, TmIn.dep_arg hd mt, fun p3 H3 s3 n3 h3 => ?_⟩
      have hp3 := s3 _ _ hp
      have n33 : p3 ≠ p := fun z => by rw [z, hp] at n3; cases n3
      have hvt : (vars t).length ≤ 100000 := by
        have h1 := adds_len (occ t) []
        have h2 := occ_len t
        have h1 : (vars t).length ≤ 0 + _ := h1
        omega
      refine ⟨_, rfl, ⟨_, SqL.of h3⟩, for_list (K := K) (a := p3) (xs := (vars t).map V.int) (fun j σ' H'' => ∃ x x2, σ' = [some (.ref a), some (.ref p), x, x2] ∧ H'' p = some (.lst ((adds (adds [] (occs (ts.take i))) ((vars t).take j)).map V.int)) ∧ But p H3 H'') ?_ ?_ ?_ ?_⟩
      · exact ⟨_, _, rfl, hp3, But.refl _ _⟩
      · rintro j σ' H'' hj ⟨x, x2, rfl, hp, b⟩
        exact SqL.of (b _ _ h3 n33)
      · rintro j y2 σ' H'' hj ⟨x, x2, rfl, hp4, b4⟩
        obtain ⟨n, gn, rfl⟩ := map_get hj
        have e : adds (adds [] (occs (ts.take i))) ((vars t).take (j + 1)) = (if n ∈ adds (adds [] (occs (ts.take i))) ((vars t).take j) then adds (adds [] (occs (ts.take i))) ((vars t).take j) else adds (adds [] (occs (ts.take i))) ((vars t).take j) ++ [n]) := by
          rw [list_take_succ gn, adds_app]; rfl
        have hl : (adds (adds [] (occs (ts.take i))) ((vars t).take j)).length ≤ 200000 := by
          have h1 := adds_len ((vars t).take j) (adds [] (occs (ts.take i)))
          have h2 := adds_len (occs (ts.take i)) []
          have h3 := occs_len (ts.take i)
          have h4 := szs_take ts i
          rw [List.length_take] at h1
          have h2 : _ ≤ 0 + _ := h2
          omega
        walk_at "rd"
        refine ⟨(by rw [List.all_map]; exact List.all_eq_true.mpr fun _ _ => rfl), _, rfl, ?_⟩
        show if (!inV (.int n) ((adds (adds [] (occs (ts.take i))) ((vars t).take j)).map V.int)) = true then _ else _
        rw [inV_ints]
        refine ifN (fun e2 => ?_) (fun e2 => ?_)
        · walk_at "rd"
          refine ⟨.inl ⟨rfl, _, SqL.of hp4⟩, _, rfl, p, _, _, rfl, rfl, hp4, by rw [List.length_map]; exact Nat.lt_of_le_of_lt hl (by decide), _, _, rfl, ?_, b4.upd _⟩
          rw [upd_same, e, if_neg e2, List.map_append]; rfl
        · walk_at "rd"
          exact ⟨_, _, rfl, by rw [hp4, e, if_pos e2], b4⟩
      · rintro σ' H'' ⟨x, x2, rfl, hp4, b4⟩
        rw [List.length_map, List.take_length] at hp4
        refine ⟨_, _, rfl, ?_, b.trans ((but_same s3).trans b4)⟩
        rw [hp4, list_take_succ gt, occs_app, adds_app]
        show _ = some (HO.lst ((adds (adds [] (occs (ts.take i))) (occ t ++ [])).map V.int))
        rw [List.append_nil]
        show some (HO.lst ((adds (adds [] (occs (ts.take i))) (adds [] (occ t))).map V.int)) = _
        rw [adds_two]
        have e0 : adds (adds [] (occs (ts.take i))) [] = adds [] (occs (ts.take i)) := rfl
        rw [e0]
    · rintro σ' H' ⟨x, x2, rfl, hp, b⟩
      rw [hvl, List.take_length] at hp
      walk_at "rd"
      exact q p H' (b.same (s1.trans s2) n1) n1 hp

theorem all_u_law_variables (T : Tx K mg A) : ∀ N : Nat, FnOk P w K mg base CX0 (N + 1) A.a_u_law_variables A.d_u_law_variables ["term"] (sp_u_law_variables N)
  | 0 => fn_none fun vs H Q E h => by obtain ⟨v, t, _, _, _, hd, _⟩ := h; have := t.dep_pos; omega
  | N + 1 => st_u_law_variables T N (all_u_law_variables T N)
theorem ok_u_law_variables (T : Tx K mg A) : FnOk P w K mg base CX0 61 A.a_u_law_variables A.d_u_law_variables ["term"] (sp_u_law_variables 60) := all_u_law_variables T 60

/-! _law_pattern -/
def sp_u_law_pattern : Sp := fun vs H Q _ => ∃ (s l pl : Addr) (v : V) (t : Tm), vs = [.ref s, v, .ref pl] ∧ St H s l ∧ TmIn H t v ∧ PosIn H pl (poss t) ∧ pl ≠ s ∧ t.sz ≤ 1000 ∧ t.dep ≤ 50 ∧ (∀ n ∈ occ t, n < 9) ∧
  ∀ (q : List Int) (c : Tm) (p bd : Addr) (pv : V) (kvs : List (Key × V)) (tb : List (Int × Tm)) H', But s H H' → St H' s l → at? q t = some c → H' p = some (.tup [pv, .ref bd]) → TmIn H' (rep (.var 9) q t) pv → H bd = none → H' bd = some (.dK kvs) → TbIn H' kvs tb →
    tb = (9, c) :: ((vars (rep (.var 9) q t)).filter (· ≠ 9)).map (fun n => (n, Tm.var n)) → Q (.ref p) H'
theorem ok_u_law_pattern (T : Tx K mg A) : FnOk P w K mg base CX0 (62) A.a_u_law_pattern A.d_u_law_pattern ["state", "term", "places"] sp_u_law_pattern := by
  have G_u_law_draw := ok_u_law_draw (P := P) (w := w) (base := base) T
  have G_u_law_replace := ok_u_law_replace (P := P) (w := w) (base := base) T
  have G_u_law_subterm := ok_u_law_subterm (P := P) (w := w) (base := base) T
  have G_u_law_variables := ok_u_law_variables (P := P) (w := w) (base := base) T
  refine T.F_u_law_pattern.ok sc_u_law_pattern (fun vs H Q E h => ?_) (fun cdv Ar outer s0 H vs Q E hr h => ?_)
  · obtain ⟨s, l, pl, v, t, rfl, _⟩ := h; rfl
  obtain ⟨s, l, pl, v, t, rfl, st, ht, hpl, ns, zt, dt, ho, q0⟩ := h
  refine ⟨_, (pss_cons (ps_set (i := 3) sc_u_law_pattern.nd rfl (Or.inl rfl) (pe_ix (r := rIxL K) ix_list (pv 2) (pe_call G_u_law_draw (hr.mono (by omega)) rfl T.m_u_law_draw T.F_u_law_draw.kp T.b_u_law_draw .nil pass0 (pa_cons (pv 0) (pa_cons (pe_callB (r := rLenS K) j_len (by rfl) T.n_len PySem.boot_len (pa_cons (pv 2) pa_nil)) pa_nil))) (fun _ _ => rfl)))
    (pss_cons (ps_set (i := 4) sc_u_law_pattern.nd rfl (Or.inl rfl) (pe_call G_u_law_replace (hr.mono (by omega)) rfl T.m_u_law_replace T.F_u_law_replace.kp T.b_u_law_replace .nil pass0 (pa_cons (pv 1) (pa_cons (pv 3) (pa_cons pe_int pa_nil)))))
    (pss_cons (ps_set (i := 5) sc_u_law_pattern.nd rfl (Or.inl rfl) (pe_disp (pps_cons pe_int (pe_call G_u_law_subterm (hr.mono (by omega)) rfl T.m_u_law_subterm T.F_u_law_subterm.kp T.b_u_law_subterm .nil pass0 (pa_cons (pv 1) (pa_cons (pv 3) pa_nil))) pps_nil) (by rfl) (by rfl) (fun z => by cases z) (by decide)))
    (pss_cons (ps_for PassesOwn.never rfl (pi_list (pe_call G_u_law_variables (hr.mono (by omega)) rfl T.m_u_law_variables T.F_u_law_variables.kp T.b_u_law_variables .nil pass0 (pa_cons (pv 4) pa_nil))) (pg_name (i := 6) sc_u_law_pattern.nd rfl (Or.inl rfl)) (pss_one (ps_if (pt_cmpR op_ne (pv 6) pe_int (nomark _)) (pss_one (ps_dput (hu_of hr) (pv 5) (pv 6) (pv 6) rfl)) pss_nil)))
    (pss_one (ps_ret (pe_tup (pa_cons (pv 4) (pa_cons (pv 5) pa_nil))))))))), ?_⟩
  iterate 3 refine ⟨_, rfl, ?_⟩
  obtain ⟨ps, hp, hl, hg⟩ := hpl
  have h5 : PosIn H pl (poss t) := ⟨ps, hp, hl, hg⟩
  have plen := poss_len t
  have zp := t.sz_pos
  refine ⟨pl, _, rfl, .inl (SqL.of hp), ?_⟩
  rw [List.length_map, hl, plen]
  walk_at "rd"
  refine ⟨s, l, (t.sz : Int), rfl, st, by omega, by omega, fun k H1 k0 k1 b1 st1 => ?_⟩
  have tu1 := st.tu b1
  obtain ⟨k, rfl⟩ := Int.eq_ofNat_of_zero_le k0
  have hk : k < (poss t).length := by omega
  obtain ⟨xs, pa, q, g1, g2, g3, g4, g5⟩ := h5.get hk
  refine ⟨pl, xs, _, _, rfl, rfl, SqL.of (b1 _ _ g1 ns), atI_nat g3, ?_⟩
  obtain ⟨ip, il⟩ := poss_is t q (List.mem_of_getElem? g4)
  have g6 := tu1 _ _ g5
  have ht1 := ht.tu tu1
  obtain ⟨c, hc⟩ := (isPos_at q t).mp ip
  walk_at "rd"
  refine ⟨v, .int 9, t, .var 9, pa, q, rfl, ht1, rfl, g6, ip, by omega, by omega, fun pv H2 s2 hpv => ?_⟩
  have rd := rep_dep (.var 9) q t ip
  have one : (Tm.var 9).sz = 1 := rfl
  have one' : (Tm.var 9).dep = 1 := rfl
  dsimp only [gName]
  first | intro bd n3 | refine fun bd n3 => ?_
  generalize ehn : upd H2 bd _ = H3
  have s3 := J.al_same n3 ehn
  have h3 := J.al_at ehn
  clear ehn
  have tu3 : Tu H1 H3 := tu_same (s2.trans s3)
  walk_at "rd"
  refine ⟨v, t, c, pa, q, rfl, ht1.tu tu3, tu3 _ _ g6, hc, fun cv H4 s4 hcv => ?_⟩
  refine ⟨s4 _ _ h3, [(.inl 9, cv)], rfl, show 1 ≤ 15 by decide, ?_⟩
  generalize ehn : upd H4 bd _ = H5
  have b5 := J.al_but ehn
  have h5 := J.al_at ehn
  clear ehn
  have h5 : H5 bd = some (.dK [(.inl 9, cv)]) := h5
  have h4 := s4 _ _ h3
  have tu45 : Tu H4 H5 := fun a xs e => b5 _ _ e fun z => by rw [z, h4] at e; cases e
  have bd0 : H1 bd = none := s2.free n3
  have sbd : s ≠ bd := fun z => by obtain ⟨_, _, _, _, e0, _⟩ := st1; rw [z, bd0] at e0; cases e0
  have lbd : l ≠ bd := fun z => by obtain ⟨_, _, _, _, _, e0, _⟩ := st1; rw [z, bd0] at e0; cases e0
  have k15 : Same H1 H5 := fun a o e => b5 a o (s4 _ _ (s3 _ _ (s2 _ _ e))) fun z => by rw [z, bd0] at e; cases e
  have hpv5 := (hpv.tu (tu_same (s3.trans s4))).tu tu45
  walk_at "rd"
  refine ⟨pv, _, rfl, hpv5, by omega, by omega, fun p6 H6 s6 n6 h6 => ?_⟩
  have h56 := s6 _ _ h5
  have p6bd : p6 ≠ bd := fun z => by rw [z, h5] at n6; cases n6
  have vl : (vars (rep (.var 9) q t)).length ≤ 100000 := by
    have h1 : (vars (rep (.var 9) q t)).length ≤ 0 + _ := adds_len (occ (rep (.var 9) q t)) []
    have := occ_len (rep (.var 9) q t)
    omega
  have vnd : (vars (rep (.var 9) q t)).Nodup := adds_nodup _ _ List.nodup_nil
  generalize hvr : vars (rep (.var 9) q t) = vr at *
  refine ⟨_, rfl, ⟨_, SqL.of h6⟩, for_list (K := K) (a := p6) (xs := vr.map V.int) (fun i σ' H' => ∃ (x : Option V) (kvs : List (Key × V)), σ' = [some (.ref s), some v, some (.ref pl), some (.ref pa), some pv, some (.ref bd), x] ∧ H' bd = some (.dK kvs) ∧ TbIn H' kvs ((9, c) :: ((vr.take i).filter (· ≠ 9)).map (fun n => (n, Tm.var n))) ∧ But bd H6 H') ?_ ?_ ?_ ?_⟩
  · exact ⟨none, _, rfl, h56, ⟨rfl, (hcv.tu tu45).tu (tu_same s6), trivial⟩, But.refl _ _⟩
  · rintro i σ' H' hi ⟨x, kvs, rfl, hb, tb, b⟩
    exact SqL.of (b _ _ h6 p6bd)
  · rintro i y σ' H' hi ⟨x, kvs, rfl, hb, tb, b⟩
    obtain ⟨n, gn, rfl⟩ := map_get hi
    have hi' : i < vr.length := (List.getElem?_eq_some_iff.mp gn).1
    rw [list_take_succ gn, List.filter_append]
    walk_at "rd"
    refine ifNe (fun e => ?_) (fun e => ?_)
    · have nn : n ∉ vr.take i := fun z => by
        obtain ⟨j, hj⟩ := List.mem_iff_getElem?.mp z
        have hj' : j < i := by
          have := (List.getElem?_eq_some_iff.mp hj).1
          rw [List.length_take] at this; omega
        rw [List.getElem?_take_of_lt hj'] at hj
        have := nd_ix vnd hj gn
        omega
      have fr : valV kvs (.inl n) = none := by
        have := tb.val n
        rw [look_none fun x hx => by
          rcases List.mem_cons.mp hx with h | h
          · rw [h]; exact fun z => e z.symm
          · obtain ⟨m, hm, rfl⟩ := List.mem_map.mp h
            exact fun z => nn (by rw [← show m = n from z]; exact (List.mem_filter.mp hm).1)] at this
        exact this
      have kl := tb.length
      rw [List.length_cons, List.length_map] at kl
      have fl : ((vr.take i).filter (· ≠ 9)).length ≤ i := Nat.le_trans (List.length_filter_le _ _) (by rw [List.length_take]; omega)
      walk_at "rd"
      refine ⟨bd, _, rfl, DPut.k (k := Sum.inl n) hb (Nat.lt_of_le_of_lt (show kvs.length ≤ 100001 by omega) (by decide)), ?_⟩
      rw [putK_new _ fr]
      generalize ehn : upd H' bd _ = H8
      have b8 := J.al_but ehn
      have h8 := J.al_at ehn
      clear ehn
      have tu8 : Tu H' H8 := fun a xs e => b8 _ _ e fun z => by rw [z, hb] at e; cases e
      refine ⟨_, _, rfl, h8, ?_, fun a o e ne => b8 a o (b a o e ne) ne⟩
      have e2 : [n].filter (· ≠ 9) = [n] := by simp [e]
      rw [e2, List.map_append, ← List.cons_append]
      exact (tb.tu tu8).snoc (t := .var n) (v := .int n) rfl
    · have e2 : [n].filter (· ≠ 9) = [] := by simp [e]
      rw [e2, List.append_nil]
      walk_at "rd"
      exact ⟨_, _, rfl, hb, tb, b⟩
  · rintro σ' H' ⟨x, kvs, rfl, hb, tb, b⟩
    rw [List.length_map, List.take_length] at tb
    have k16 : Same H1 H6 := k15.trans s6
    have k1 : Same H1 H' := b.same k16 bd0
    have tu6 : Tu H6 H' := but_tu b fun xs e => by rw [h56] at e; cases e
    walk_at "rd"
    refine ⟨show 2 ≤ sizeLine by decide, ?_⟩
    first | intro r n9 | refine fun r n9 => ?_
    generalize ehn : upd H' r _ = H9
    have s9 := J.al_same n9 ehn
    have h9 := J.al_at ehn
    clear ehn
    have tu9 : Tu H' H9 := tu_same s9
    have bdH : H bd = none := by
      cases e : H bd with
      | none => rfl
      | some o =>
        have := b1 _ _ e fun z => sbd z.symm
        rw [bd0] at this; cases this
    refine q0 q c r bd pv kvs _ H9 (b1.trans (but_same (k1.trans s9))) (st1.same (k1.trans s9)) hc h9 ((hpv5.tu (tu_same s6)).tu (tu6.trans tu9)) bdH (s9 _ _ hb) (tb.tu tu9) ?_
    rw [hvr]

/-! _law_substitute -/
def sp_u_law_substitute (N : Nat) : Sp := fun vs H Q _ => ∃ (v : V) (t : Tm) (d : Addr) (m : Int → Option Tm), vs = [v, .ref d] ∧ TmIn H t v ∧ SbIn H d m ∧ t.sz ≤ 100000 ∧ t.dep ≤ N ∧ ∀ r H', Same H H' → TmIn H' (sub m t) r → Q r H'
theorem st_u_law_substitute (T : Tx K mg A) (N : Nat) (G_u_law_substitute : FnOk P w K mg base CX0 (N + 1) A.a_u_law_substitute A.d_u_law_substitute ["term", "substitution"] (sp_u_law_substitute N)) : FnOk P w K mg base CX0 (N + 2) A.a_u_law_substitute A.d_u_law_substitute ["term", "substitution"] (sp_u_law_substitute (N + 1)) := by

  refine T.F_u_law_substitute.ok sc_u_law_substitute (fun vs H Q E h => ?_) (fun cdv Ar outer s0 H vs Q E hr h => ?_)
  · obtain ⟨v, t, d, m, rfl, _⟩ := h; rfl
  obtain ⟨v, t, d, m, rfl, ht, hs, hz, hd, q⟩ := h
  refine ⟨_, (pss_cons (ps_if (pt_val (pe_callB (r := rIsi K) call_isi (by rfl) T.n_isinstance boot_isinstance (pa_cons (pv 0) (pa_cons (pe_bltn (v := .ty "int") (by rfl) T.n_int boot_int rfl) pa_nil)))) (pss_one (ps_ret (pe_dget2 (hu_of hr) (pv 1) (pv 0) (pv 0) ⟨by rfl, by rfl, by rfl, by rfl⟩))) pss_nil)
    (pss_cons (ps_set (i := 2) sc_u_law_substitute.nd rfl (Or.inl rfl) (pe_tup (pa_cons (pe_ix (r := rIxT K) ix_tup (pv 0) pe_int (fun _ _ => rfl)) pa_nil)))
    (pss_cons (ps_for PassesOwn.never rfl (pi_tup (pe_slice (r := rSlT K) sl_tup (pv 0) (po_some pe_int) po_none)) (pg_name (i := 3) sc_u_law_substitute.nd rfl (Or.inl rfl)) (pss_one (ps_set (i := 2) sc_u_law_substitute.nd rfl (Or.inl rfl) (pe_op (r := rCatT K) op_catT (pv 2) (pe_tup (pa_cons (pe_call G_u_law_substitute (hr.mono (by omega)) rfl T.m_u_law_substitute T.F_u_law_substitute.kp T.b_u_law_substitute .nil pass0 (pa_cons (pv 3) (pa_cons (pv 1) pa_nil))) pa_nil))))))
    (pss_one (ps_ret (pv 2)))))), ?_⟩
  cases t with
  | var n =>
    cases (show v = .int n from ht)
    walk_at "rd"
    walk_at "isi"
    obtain ⟨o, g, tm⟩ := hs.get n
    obtain ⟨kvs, hk⟩ := hs.at
    walk_at "rd"
    refine ⟨.inl ⟨_, .inl hk⟩, ?_⟩
    walk_at "rd"
    exact ⟨o, g, q _ H (Same.refl _) tm⟩
  | app f ts =>
    obtain ⟨a, vs, rfl, ha, hts⟩ := ht
    walk_at "rd"
    walk_at "isi"
    walk_at "rd"
    refine ⟨by show 1 ≤ sizeLine; decide, ?_⟩
    first | intro p n1 | refine fun p n1 => ?_
    generalize ehn : upd H p _ = H1
    have s1 := J.al_same n1 ehn
    have h1 := J.al_at ehn
    clear ehn
    have ha1 := s1 _ _ ha
    walk_at "rd"
    walk_at "sl1"
    first | intro u n2 | refine fun u n2 => ?_
    generalize ehn : upd H1 u _ = H2
    have s2 := J.al_same n2 ehn
    have h2 := J.al_at ehn
    clear ehn
    have hts2 := (hts.tu (tu_same s1)).tu (tu_same s2)
    have hs2 := (hs.same s1).same s2
    have hvl := hts.length
    have hz : 1 + Tm.szs ts ≤ 100000 := hz
    have hll := Tm.len_le ts
    refine ⟨_, rfl, ⟨_, SqT.of h2⟩, for_tup (xs := vs) (fun i σ' H' => ∃ p x ws, σ' = [some (.ref a), some (.ref d), some (.ref p), x] ∧ H' p = some (.tup (.str f :: ws)) ∧ TmsIn H' (subs m (ts.take i)) ws ∧ Same H2 H') ?_ ?_ ?_ ?_⟩
    · exact ⟨p, none, [], rfl, s2 _ _ h1, rfl, Same.refl _⟩
    · rintro i σ' H' hi ⟨p, x, ws, rfl, hp, hw, b⟩
      exact SqT.of (b _ _ h2)
    · rintro i y σ' H' hi ⟨p, x, ws, rfl, hp, hw, b⟩
      obtain ⟨t, gt, ht⟩ := hts2.get hi
      have mt : t ∈ ts := List.mem_of_getElem? gt
      have := Tm.sz_arg mt
      walk_at "rd"
      refine ⟨y, t, d, m, rfl, ht.tu (tu_same b), hs2.same b, by omega, TmIn.dep_arg hd mt, fun r H3 s3 hr3 => ?_⟩
      have hwl := hw.length
      have hl3 : (subs m (ts.take i)).length ≤ i := by rw [subs_map, List.length_map, List.length_take]; omega
      have hiv : i < vs.length := (List.getElem?_eq_some_iff.mp hi).1
      refine ⟨by show 1 ≤ sizeLine; decide, ?_⟩
      first | intro z n4 | refine fun z n4 => ?_
      generalize ehn : upd H3 z _ = H4
      have s4 := J.al_same n4 ehn
      have h4 := J.al_at ehn
      clear ehn
      refine ⟨p, z, _, _, rfl, rfl, SqT.of (s4 _ _ (s3 _ _ hp)), SqT.of h4, List.cons_ne_nil _ _, Nat.le_trans (show ws.length + 1 + 1 ≤ 100002 by omega) (by decide), fun z => absurd z (List.cons_ne_nil _ _), fun _ => ?_⟩
      first | intro z2 n5 | refine fun z2 n5 => ?_
      generalize ehn : upd H4 z2 _ = H5
      have s5 := J.al_same n5 ehn
      have h5 := J.al_at ehn
      clear ehn
      refine ⟨z2, _, ws ++ [r], rfl, h5, ?_, b.trans (s3.trans (s4.trans s5))⟩
      rw [list_take_succ gt, subs_map, List.map_append, ← subs_map]
      have tu35 := tu_same (s4.trans s5)
      exact ((hw.tu (tu_same s3)).tu tu35).append (TmsIn.one (hr3.tu tu35))
    · rintro σ' H' ⟨p, x, ws, rfl, hp, hw, b⟩
      rw [hvl, List.take_length] at hw
      walk_at "rd"
      exact q _ H' (s1.trans (s2.trans b)) ⟨p, ws, rfl, hp, hw⟩

theorem all_u_law_substitute (T : Tx K mg A) : ∀ N : Nat, FnOk P w K mg base CX0 (N + 1) A.a_u_law_substitute A.d_u_law_substitute ["term", "substitution"] (sp_u_law_substitute N)
  | 0 => fn_none fun vs H Q E h => by obtain ⟨v, t, d, m, _, _, _, _, hd, _⟩ := h; have := t.dep_pos; omega
  | N + 1 => st_u_law_substitute T N (all_u_law_substitute T N)
theorem ok_u_law_substitute (T : Tx K mg A) : FnOk P w K mg base CX0 61 A.a_u_law_substitute A.d_u_law_substitute ["term", "substitution"] (sp_u_law_substitute 60) := all_u_law_substitute T 60

/-! _law_step -/
def sp_u_law_step : Sp := fun vs H Q _ => ∃ (s l o src : Addr) (fs : List Str) (B : Int) (v : V) (t : Tm), vs = [.ref s, .ref o, .int B, v, .ref src] ∧ St H s l ∧ Ops H o fs ∧ 0 ≤ B ∧ B ≤ 9 ∧ TmIn H t v ∧ t.wf fs 9 ∧ t.sz ≤ 900 ∧ t.dep ≤ 45 ∧
  ∀ (p e a pa bd : Addr) (lv rv nv : V) (fwd : Bool) (q : List Int) (kvs : List (Key × V)) (tb : List (Int × Tm)) (L R t' : Tm) H', But s H H' → St H' s l → H' p = some (.tup [.ref e, .ref a, nv]) → H' e = some (.tup [lv, rv]) → TmIn H' L lv → TmIn H' R rv →
    H' a = some (.tup [.ref src, .bl fwd, .ref pa, .ref bd]) → H' pa = some (.tup (q.map V.int)) → H bd = none → H' bd = some (.dK kvs) → TbIn H' kvs tb → TmIn H' t' nv → Stp fs t t' fwd q tb L R → Q (.ref p) H'
theorem ok_u_law_step (T : Tx K mg A) : FnOk P w K mg base CX0 (64) A.a_u_law_step A.d_u_law_step ["state", "operations", "count", "term", "source"] sp_u_law_step := by
  have G_u_law_draw := ok_u_law_draw (P := P) (w := w) (base := base) T
  have G_u_law_pattern := ok_u_law_pattern (P := P) (w := w) (base := base) T
  have G_u_law_positions := ok_u_law_positions (P := P) (w := w) (base := base) T
  have G_u_law_replace := ok_u_law_replace (P := P) (w := w) (base := base) T
  have G_u_law_substitute := ok_u_law_substitute (P := P) (w := w) (base := base) T
  have G_u_law_subterm := ok_u_law_subterm (P := P) (w := w) (base := base) T
  have G_u_law_term := ok_u_law_term (P := P) (w := w) (base := base) T
  have G_u_law_variables := ok_u_law_variables (P := P) (w := w) (base := base) T
  refine T.F_u_law_step.ok sc_u_law_step (fun vs H Q E h => ?_) (fun cdv Ar outer s0 H vs Q E hr h => ?_)
  · obtain ⟨s, l, o, src, fs, B, v, t, rfl, _⟩ := h; rfl
  obtain ⟨s, l, o, src, fs, B, v, t, rfl, st, op, B0, B9, ht, wt, zt, dt, q0⟩ := h
  refine ⟨_, (pss_cons (ps_set (i := 5) sc_u_law_step.nd rfl (Or.inl rfl) (pe_call G_u_law_positions (hr.mono (by omega)) rfl T.m_u_law_positions T.F_u_law_positions.kp T.b_u_law_positions .nil pass0 (pa_cons (pv 3) pa_nil)))
    (pss_cons (ps_set (i := 6) sc_u_law_step.nd rfl (Or.inl rfl) (pe_ix (r := rIxL K) ix_list (pv 5) (pe_call G_u_law_draw (hr.mono (by omega)) rfl T.m_u_law_draw T.F_u_law_draw.kp T.b_u_law_draw .nil pass0 (pa_cons (pv 0) (pa_cons (pe_callB (r := rLenS K) j_len (by rfl) T.n_len PySem.boot_len (pa_cons (pv 5) pa_nil)) pa_nil))) (fun _ _ => rfl)))
    (pss_cons (ps_set (i := 7) sc_u_law_step.nd rfl (Or.inl rfl) (pe_call G_u_law_subterm (hr.mono (by omega)) rfl T.m_u_law_subterm T.F_u_law_subterm.kp T.b_u_law_subterm .nil pass0 (pa_cons (pv 3) (pa_cons (pv 6) pa_nil))))
    (pss_cons (ps_asg (pe_call G_u_law_pattern (hr.mono (by omega)) rfl T.m_u_law_pattern T.F_u_law_pattern.kp T.b_u_law_pattern .nil pass0 (pa_cons (pv 0) (pa_cons (pv 7) (pa_cons (pe_call G_u_law_positions (hr.mono (by omega)) rfl T.m_u_law_positions T.F_u_law_positions.kp T.b_u_law_positions .nil pass0 (pa_cons (pv 7) pa_nil)) pa_nil)))) (pg_tup (by rfl) (pgs_cons (pg_name (i := 8) sc_u_law_step.nd rfl (Or.inl rfl)) (pgs_cons (pg_name (i := 9) sc_u_law_step.nd rfl (Or.inl rfl)) pgs_nil))))
    (pss_cons (ps_set (i := 10) sc_u_law_step.nd rfl (Or.inl rfl) (pe_call G_u_law_term (hr.mono (by omega)) rfl T.m_u_law_term T.F_u_law_term.kp T.b_u_law_term .nil pass0 (pa_cons (pv 0) (pa_cons (pv 1) (pa_cons (pv 2) (pa_cons pe_int pa_nil))))))
    (pss_cons (ps_if (pt_cmpR op_eq (pe_call G_u_law_draw (hr.mono (by omega)) rfl T.m_u_law_draw T.F_u_law_draw.kp T.b_u_law_draw .nil pass0 (pa_cons (pv 0) (pa_cons pe_int pa_nil))) pe_int (nomark _)) (pss_one (ps_set (i := 10) sc_u_law_step.nd rfl (Or.inl rfl) (pe_call G_u_law_replace (hr.mono (by omega)) rfl T.m_u_law_replace T.F_u_law_replace.kp T.b_u_law_replace .nil pass0 (pa_cons (pv 10) (pa_cons (pe_ix (r := rIxL K) ix_list (pe_call G_u_law_positions (hr.mono (by omega)) rfl T.m_u_law_positions T.F_u_law_positions.kp T.b_u_law_positions .nil pass0 (pa_cons (pv 10) pa_nil)) (pe_op op_sub pe_int pe_int) (fun _ _ => rfl)) (pa_cons pe_int pa_nil)))))) pss_nil)
    (pss_cons (ps_for PassesOwn.never rfl (pi_list (pe_call G_u_law_variables (hr.mono (by omega)) rfl T.m_u_law_variables T.F_u_law_variables.kp T.b_u_law_variables .nil pass0 (pa_cons (pv 10) pa_nil))) (pg_name (i := 11) sc_u_law_step.nd rfl (Or.inl rfl)) (pss_one (ps_if (pt_cmp (pc_dnotin (hu_of hr) (pv 11) (pv 9))) (pss_one (ps_dput (hu_of hr) (pv 9) (pv 11) (pe_call G_u_law_term (hr.mono (by omega)) rfl T.m_u_law_term T.F_u_law_term.kp T.b_u_law_term .nil pass0 (pa_cons (pv 0) (pa_cons (pv 1) (pa_cons (pv 2) (pa_cons pe_int pa_nil))))) rfl)) pss_nil)))
    (pss_cons (ps_set (i := 12) sc_u_law_step.nd rfl (Or.inl rfl) (pe_call G_u_law_replace (hr.mono (by omega)) rfl T.m_u_law_replace T.F_u_law_replace.kp T.b_u_law_replace .nil pass0 (pa_cons (pv 3) (pa_cons (pv 6) (pa_cons (pe_call G_u_law_substitute (hr.mono (by omega)) rfl T.m_u_law_substitute T.F_u_law_substitute.kp T.b_u_law_substitute .nil pass0 (pa_cons (pv 10) (pa_cons (pv 9) pa_nil))) pa_nil)))))
    (pss_cons (ps_if (pt_cmpR op_eq (pe_call G_u_law_draw (hr.mono (by omega)) rfl T.m_u_law_draw T.F_u_law_draw.kp T.b_u_law_draw .nil pass0 (pa_cons (pv 0) (pa_cons pe_int pa_nil))) pe_int (nomark _)) (pss_one (ps_ret (pe_tup (pa_cons (pe_tup (pa_cons (pv 8) (pa_cons (pv 10) pa_nil))) (pa_cons (pe_tup (pa_cons (pv 4) (pa_cons pe_bl (pa_cons (pv 6) (pa_cons (pv 9) pa_nil))))) (pa_cons (pv 12) pa_nil)))))) pss_nil)
    (pss_one (ps_ret (pe_tup (pa_cons (pe_tup (pa_cons (pv 10) (pa_cons (pv 8) pa_nil))) (pa_cons (pe_tup (pa_cons (pv 4) (pa_cons pe_bl (pa_cons (pv 6) (pa_cons (pv 9) pa_nil))))) (pa_cons (pv 12) pa_nil))))))))))))))), ?_⟩
  walk_at "rd"
  have tz := t.sz_pos
  have td := t.dep_pos
  refine ⟨v, t, rfl, ht, by omega, by omega, fun pl H1 s1 n1 h1 => ?_⟩
  obtain ⟨ps, hp, hl, hg⟩ := h1
  have h1 : PosIn H1 pl (poss t) := ⟨ps, hp, hl, hg⟩
  have plen := poss_len t
  have st1 := st.same s1
  have op1 := op.same s1
  have pls : pl ≠ s := fun z => by obtain ⟨_, _, _, _, e0, _⟩ := st; rw [z, e0] at n1; cases n1
  iterate 3 refine ⟨_, rfl, ?_⟩
  refine ⟨pl, _, rfl, .inl (SqL.of hp), ?_⟩
  rw [List.length_map, hl, plen]
  walk_at "rd"
  refine ⟨s, l, (t.sz : Int), rfl, st1, by omega, by omega, fun k H2 k0 k1 b2 st2 => ?_⟩
  have tu12 := st1.tu b2
  have op2 := op1.but st1 b2
  obtain ⟨k, rfl⟩ := Int.eq_ofNat_of_zero_le k0
  have hk : k < (poss t).length := by omega
  obtain ⟨xs, pa, q, g1, g2, g3, g4, g5⟩ := h1.get hk
  refine ⟨pl, xs, _, _, rfl, rfl, SqL.of (b2 _ _ g1 pls), atI_nat g3, ?_⟩
  obtain ⟨ip, il⟩ := poss_is t q (List.mem_of_getElem? g4)
  obtain ⟨c0, hc0⟩ := (isPos_at q t).mp ip
  replace g5 := tu12 _ _ g5
  have ht2 := ht.tu ((tu_same s1).trans tu12)
  have zc0 := at_sz _ _ _ hc0
  have wc0 := at_wf _ _ _ hc0 wt
  walk_at "rd"
  refine ⟨v, t, c0, pa, q, rfl, ht2, g5, hc0, fun cv H3 s3 hcv => ?_⟩
  have st3 := st2.same s3
  have op3 := op2.same s3
  have g6 := s3 _ _ g5
  have ht3 := ht2.tu (tu_same s3)
  clear g1 g2 g3 g4 h1 hp hl hg st1 op1 op2 op
  walk_at "rd"
  refine ⟨cv, c0, rfl, hcv, by omega, by omega, fun pl2 H4 s4 n4 h4 => ?_⟩
  have st4 := st3.same s4
  have op4 := op3.same s4
  have tu34 := tu_same s4
  have pls2 : pl2 ≠ s := fun z => by obtain ⟨_, _, _, _, e0, _⟩ := st3; rw [z, e0] at n4; cases n4
  walk_at "rd"
  have hcv4 := hcv.tu tu34
  have ht4 := ht3.tu tu34
  have g7 := s4 _ _ g6
  refine ⟨s, l, pl2, cv, c0, rfl, st4, hcv4, h4, pls2, by omega, by omega, fun n hn => (occ_wf c0 wc0 n hn).2, fun q1 c p5 bd pv kvs tb H5 b5 st5 hc h5 hpv nbd hbd htb etb => ?_⟩
  refine ⟨p5, _, rfl, SqT.of h5, rfl, _, _, rfl, _, _, rfl, rfl, ?_⟩
  have tu45 := st4.tu b5
  have op5 := op4.but st4 b5
  have ht5 := ht4.tu tu45
  have g8 := tu45 _ _ g7
  have bH4 : But s H H4 := (but_same s1).trans (b2.trans ((but_same s3).trans (but_same s4)))
  have sbd : s ≠ bd := fun z => by obtain ⟨_, _, _, _, e0, _⟩ := st4; rw [z, nbd] at e0; cases e0
  have lbd : l ≠ bd := fun z => by obtain ⟨_, _, _, _, _, e0, _⟩ := st4; rw [z, nbd] at e0; cases e0
  have bdH : H bd = none := by
    cases e : H bd with
    | none => rfl
    | some o =>
      have := bH4 _ _ e fun z => sbd z.symm
      rw [nbd] at this; cases this
  have bdo : bd ≠ o := fun z => by obtain ⟨_, _, as, e0, _⟩ := op4; rw [← z, nbd] at e0; cases e0
  clear h4 n1 n4 s1 b2 s3 s4 hcv hcv4 st st2 st3 op3 op4 ht ht2 ht3 ht4 g5 g6 g7 pls pls2 tu12 tu34 h5
  have zc := at_sz _ _ _ hc
  have ip1 : IsPos q1 c0 := (isPos_at q1 c0).mpr ⟨c, hc⟩
  have rd := rep_dep (.var 9) q1 c0 ip1
  have one : (Tm.var 9).sz = 1 := rfl
  have one' : (Tm.var 9).dep = 1 := rfl
  walk_at "rd"
  refine ⟨s, l, o, fs, B, 1, by omega, rfl, st5, op5, B0, by omega, fun nv N H6 b6 st6 hN wN dN zN => ?_⟩
  have wN : N.wf fs 9 := wN.mono B9
  have zN : N.sz ≤ 4 := by have e : (3 : Nat) ^ (1 + 1) = 9 := rfl; omega
  have dN : N.dep ≤ 2 := dN
  have tu56 := st5.tu b6
  have op6 := op5.but st5 b6
  have hbd6 := b6 _ _ hbd fun z => sbd z.symm
  have htb6 := htb.tu tu56
  have hpv6 := hpv.tu tu56
  have ht6 := ht5.tu tu56
  have g9 := tu56 _ _ g8
  dsimp only [gName]
  refine seq_join (t := tIfS _ _ _) (fun σ' H' => ∃ (nv1 : V) (N1 : Tm), σ' = [some (.ref s), some (.ref o), some (.int B), some v, some (.ref src), some (.ref pl), some (.ref pa), some cv, some pv, some (.ref bd), some nv1, none, none] ∧ TmIn H' N1 nv1 ∧ (N1 = N ∨ ∃ q2, IsPos q2 N ∧ N1 = rep (.var 9) q2 N) ∧ But s H6 H' ∧ St H' s l) ?_ (fun N' cont => ?_)
  · rintro σ' H7 ⟨nv1, N1, rfl, hN1, oN1, b7, st7⟩
    have zN1 : N1.sz ≤ 5 ∧ N1.dep ≤ 2 ∧ N1.wf fs 10 := by
      rcases oN1 with e | ⟨q2, ip2, e⟩
      · rw [e]; exact ⟨by omega, by omega, wN.mono (by decide)⟩
      · obtain ⟨u2, hu2⟩ := (isPos_at q2 N).mp ip2
        have l2 := at_len _ _ _ hu2
        have p2 := u2.dep_pos
        have := rep_dep (.var 9) q2 N ip2
        rw [e]
        exact ⟨by omega, by omega, rep_wf (show (Tm.var 9).wf fs 10 from ⟨by decide, by decide⟩) q2 N (wN.mono (by decide)) ip2⟩
    have tu67 := st6.tu b7
    have op7 := op6.but st6 b7
    have hbd7 := b7 _ _ hbd6 fun z => sbd z.symm
    have htb7 := htb6.tu tu67
    walk_at "rd"
    refine ⟨nv1, N1, rfl, hN1, by omega, by omega, fun p9 H8 s8 n8 h8 => ?_⟩
    have hbd8 := s8 _ _ hbd7
    have htb8 := htb7.tu (tu_same s8)
    have hN8 := hN1.tu (tu_same s8)
    have st8 := st7.same s8
    have op8 := op7.same s8
    have p9s : p9 ≠ s := fun z => by obtain ⟨_, _, _, _, e0, _⟩ := st7; rw [z, e0] at n8; cases n8
    have p9bd : p9 ≠ bd := fun z => by rw [z, hbd7] at n8; cases n8
    have vl : (vars N1).length ≤ 5 := by
      have h1 : (vars N1).length ≤ 0 + _ := adds_len (occ N1) []
      have := occ_len N1
      omega
    have vnd : (vars N1).Nodup := adds_nodup _ _ List.nodup_nil
    have nd0 : (tb.map (·.1)).Nodup := by
      rw [etb, List.map_cons, List.map_map, show ((fun x : Int × Tm => x.1) ∘ fun n => (n, Tm.var n)) = id from rfl, List.map_id]
      refine List.nodup_cons.mpr ⟨fun z => ?_, ?_⟩
      · have := (List.mem_filter.mp z).2; simp at this
      · exact (adds_nodup _ _ List.nodup_nil : (vars _).Nodup).filter _
    have tbl : tb.length ≤ 1000 := by
      rw [etb, List.length_cons, List.length_map]
      have h1 := List.length_filter_le (· ≠ 9) (vars (rep (.var 9) q1 c0))
      have h2 : (vars (rep (.var 9) q1 c0)).length ≤ 0 + _ := adds_len (occ (rep (.var 9) q1 c0)) []
      have h3 := occ_len (rep (.var 9) q1 c0)
      omega
    have keysOf : ∀ (H' : Hp) (kvs : List (Key × V)) (tb : List (Int × Tm)), TbIn H' kvs tb → ∀ n, valV kvs (.inl n) = none ↔ n ∉ tb.map (·.1) := fun H' kvs tb h n => by
      have h1 := h.val n
      cases e : look tb n with
      | none =>
        rw [e] at h1
        exact ⟨fun _ z => (look_some.mpr z) e, fun _ => h1⟩
      | some u =>
        rw [e] at h1
        obtain ⟨v, hv, _⟩ := h1
        refine ⟨(fun z => by rw [hv] at z; cases z), fun z => absurd (look_some.mp (by rw [e]; exact fun w => nomatch w)) z⟩
    refine ⟨_, rfl, ⟨_, SqL.of h8⟩, for_list (K := K) (a := p9) (xs := (vars N1).map V.int) (fun i σ' H' => ∃ (x : Option V) (kvs : List (Key × V)) (ex : List (Int × Tm)), σ' = [some (.ref s), some (.ref o), some (.int B), some v, some (.ref src), some (.ref pl), some (.ref pa), some cv, some pv, some (.ref bd), some nv1, x, none] ∧ H' bd = some (.dK kvs) ∧ TbIn H' kvs (tb ++ ex) ∧
      ((tb ++ ex).map (·.1)).Nodup ∧ ex.length ≤ i ∧ (∀ x ∈ ex, x.1 ∈ vars N1 ∧ x.2.wf fs 9 ∧ x.2.sz ≤ 4 ∧ x.2.dep ≤ 2) ∧ (∀ n ∈ (vars N1).take i, n ∈ (tb ++ ex).map (·.1)) ∧ St H' s l ∧ (∀ a ob, H8 a = some ob → a ≠ s → a ≠ bd → H' a = some ob)) ?_ ?_ ?_ ?_⟩
    · exact ⟨none, _, [], rfl, hbd8, by rw [List.append_nil]; exact htb8, by rw [List.append_nil]; exact nd0, Nat.le_refl _, (fun x hx => nomatch hx), (fun n hn => by rw [List.take_zero] at hn; cases hn), st8, fun a ob e _ _ => e⟩
    · rintro i σ' H' hi ⟨x, kvs, ex, rfl, hb, tbx, nd, exl, hex, hin, st', f⟩
      exact SqL.of (f _ _ h8 p9s p9bd)
    · rintro i y σ' H' hi ⟨x, kvs, ex, rfl, hb, tbx, nd, exl, hex, hin, st', f⟩
      obtain ⟨n, gn, rfl⟩ := map_get hi
      have hi' : i < (vars N1).length := (List.getElem?_eq_some_iff.mp gn).1
      have tuf : Tu H8 H' := fun a xs e => f a _ e (fun z => by obtain ⟨_, _, _, q⟩ := st8.lst; rw [z, q] at e; cases e) fun z => by rw [z, hbd8] at e; cases e
      have kl := tbx.length
      rw [List.length_append] at kl
      walk_at "rd"
      refine ⟨bd, _, rfl, DGet.k (k := Sum.inl n) hb, ?_⟩
      by_cases hk : n ∈ (tb ++ ex).map (·.1)
      · cases ev : valV kvs (Sum.inl n : Key) with
        | none => exact absurd hk ((keysOf _ _ _ tbx n).mp ev)
        | some w =>
          walk_at "rd"
          refine ⟨_, kvs, ex, rfl, hb, tbx, nd, by omega, hex, fun m hm => ?_, st', f⟩
          rw [list_take_succ gn] at hm
          rcases List.mem_append.mp hm with z | z
          · exact hin m z
          · rw [List.mem_singleton.mp z]; exact hk
      · have ev := (keysOf _ _ _ tbx n).mpr hk
        rw [ev]
        walk_at "rd"
        have op' : Ops H' o fs := by
          have os := op8.ne st8
          obtain ⟨n1, hl, as, h1, h2, h3⟩ := op8
          exact ⟨n1, hl, as, f _ _ h1 os bdo.symm, h2, fun k f' a e e' => tuf _ _ (h3 k f' a e e')⟩
        refine ⟨s, l, o, fs, B, 1, by omega, rfl, st', op', B0, by omega, fun wv W H9 b9 st9 hW wW dW zW => ?_⟩
        have zW : W.sz ≤ 4 := by have e : (3 : Nat) ^ (1 + 1) = 9 := rfl; omega
        have dW : W.dep ≤ 2 := dW
        have hb9 := b9 _ _ hb fun z => sbd z.symm
        have tb9 := tbx.tu (st'.tu b9)
        walk_at "rd"
        refine ⟨bd, _, rfl, DPut.k (k := Sum.inl n) hb9 (Nat.lt_of_le_of_lt (show kvs.length ≤ 2000 by omega) (by decide)), ?_⟩
        rw [putK_new _ ev]
        generalize ehn : upd H9 bd _ = H10
        have b10 := J.al_but ehn
        have h10 := J.al_at ehn
        clear ehn
        have tu10 : Tu H9 H10 := fun a xs e => b10 _ _ e fun z => by rw [z, hb9] at e; cases e
        refine ⟨_, _, ex ++ [(n, W)], rfl, h10, ?_, ?_, by rw [List.length_append]; show ex.length + 1 ≤ i + 1; omega, ?_, ?_, st9.but b10 sbd lbd, fun a ob e n1 n2 => b10 a ob (b9 a ob (f a ob e n1 n2) n1) n2⟩
        · rw [← List.append_assoc]
          exact (tb9.tu tu10).snoc (hW.tu tu10)
        · rw [← List.append_assoc, List.map_append]
          refine List.nodup_append.mpr ⟨nd, by simp, fun a ha b hb => ?_⟩
          have hb : b = n := by simpa using hb
          rw [hb]; exact fun z => hk (z ▸ ha)
        · intro x hx
          rcases List.mem_append.mp hx with z | z
          · exact hex x z
          · rw [List.mem_singleton.mp z]; exact ⟨List.mem_of_getElem? gn, wW.mono B9, zW, dW⟩
        · intro m hm
          rw [← List.append_assoc, List.map_append]
          rw [list_take_succ gn] at hm
          rcases List.mem_append.mp hm with z | z
          · exact List.mem_append.mpr (.inl (hin m z))
          · rw [List.mem_singleton.mp z]; exact List.mem_append.mpr (.inr (List.mem_singleton.mpr rfl))
    · rintro σ' H9 ⟨x, kvs9, ex, rfl, hb9, tb9, nd9, exl, hex, hin, st9, f9⟩
      rw [List.length_map, List.take_length] at hin
      have tu89 : Tu H8 H9 := fun a xs e => f9 a _ e (fun z => by obtain ⟨_, _, _, q⟩ := st8.lst; rw [z, q] at e; cases e) fun z => by rw [z, hbd8] at e; cases e
      have tu59 : Tu H6 H9 := tu67.trans ((tu_same s8).trans tu89)
      have b09 : But s H H9 := fun a ob e ne => f9 a ob (s8 _ _ (b7 _ _ (b6 _ _ (b5 _ _ (bH4 a ob e ne) ne) ne) ne)) ne fun z => by rw [z, bdH] at e; cases e
      generalize etx : tb ++ ex = tx at *
      have S := stp_of (N1 := N1) (N := N) (tb := tx) (l := ex) wt hc0 hc (by rw [← etx, etb]) nd9 hex hin wN zN dN oN1
      have hN9 := hN8.tu tu89
      have ht9 := ht6.tu tu59
      have hpv9 := hpv6.tu tu59
      have g10 := tu59 _ _ g9
      have ST := S true (L := rep (.var 9) q1 c0) (R := N1) rfl rfl
      have SF := S false (L := N1) (R := rep (.var 9) q1 c0) rfl rfl
      have zu : (sub (look tx) N1).sz ≤ t.sz + 16 := ST.zu
      walk_at "rd"
      refine ⟨nv1, N1, bd, look tx, rfl, hN9, TbIn.sb hb9 tb9, by omega, by omega, fun uv H10 s10 hU => ?_⟩
      walk_at "rd"
      refine ⟨v, uv, t, sub (look tx) N1, pa, q, rfl, ht9.tu (tu_same s10), hU, s10 _ _ g10, ip, by omega, by omega, fun rv H11 s11 hR => ?_⟩
      have st11 := (st9.same s10).same s11
      have s911 : Same H9 H11 := s10.trans s11
      walk_at "rd"
      refine ⟨s, l, 2, rfl, st11, by decide, by decide, fun r H12 r0 r1 b12 st12 => ?_⟩
      have b912 : But s H9 H12 := (but_same s911).trans b12
      have tu912 : Tu H9 H12 := (tu_same s911).trans (st11.tu b12)
      have hR12 := hR.tu (st11.tu b12)
      have hb12 := b912 _ _ hb9 fun z => sbd z.symm
      walk_at "rd"
      refine ite2 (fun e => ?_) (fun e => ?_)
      · walk_at "rd"
        refine ⟨show 2 ≤ sizeLine by decide, ?_⟩
        first | intro ea n13 | refine fun ea n13 => ?_
        generalize ehn : upd H12 ea _ = H13
        have s13 := J.al_same n13 ehn
        have h13 := J.al_at ehn
        clear ehn
        walk_at "rd"
        refine ⟨show 4 ≤ sizeLine by decide, ?_⟩
        first | intro aa n14 | refine fun aa n14 => ?_
        generalize ehn : upd H13 aa _ = H14
        have s14 := J.al_same n14 ehn
        have h14 := J.al_at ehn
        clear ehn
        walk_at "rd"
        refine ⟨show 3 ≤ sizeLine by decide, ?_⟩
        first | intro pp n15 | refine fun pp n15 => ?_
        generalize ehn : upd H14 pp _ = H15
        have s15 := J.al_same n15 ehn
        have h15 := J.al_at ehn
        clear ehn
        have k12 : Same H12 H15 := s13.trans (s14.trans s15)
        have tu15 := tu912.trans (tu_same k12)
        exact q0 pp ea aa pa bd pv nv1 rv true q kvs9 tx _ N1 _ H15 (b09.trans (b912.trans (but_same k12))) (st12.same k12) h15 (s15 _ _ (s14 _ _ h13)) (hpv9.tu tu15) (hN9.tu tu15) (s15 _ _ h14) (tu15 _ _ g10) bdH (k12 _ _ hb12) (tb9.tu tu15) (hR12.tu (tu_same k12)) ST
      · walk_at "rd"
        refine ⟨show 2 ≤ sizeLine by decide, ?_⟩
        first | intro ea n13 | refine fun ea n13 => ?_
        generalize ehn : upd H12 ea _ = H13
        have s13 := J.al_same n13 ehn
        have h13 := J.al_at ehn
        clear ehn
        walk_at "rd"
        refine ⟨show 4 ≤ sizeLine by decide, ?_⟩
        first | intro aa n14 | refine fun aa n14 => ?_
        generalize ehn : upd H13 aa _ = H14
        have s14 := J.al_same n14 ehn
        have h14 := J.al_at ehn
        clear ehn
        walk_at "rd"
        refine ⟨show 3 ≤ sizeLine by decide, ?_⟩
        first | intro pp n15 | refine fun pp n15 => ?_
        generalize ehn : upd H14 pp _ = H15
        have s15 := J.al_same n15 ehn
        have h15 := J.al_at ehn
        clear ehn
        have k12 : Same H12 H15 := s13.trans (s14.trans s15)
        have tu15 := tu912.trans (tu_same k12)
        exact q0 pp ea aa pa bd nv1 pv rv false q kvs9 tx N1 _ _ H15 (b09.trans (b912.trans (but_same k12))) (st12.same k12) h15 (s15 _ _ (s14 _ _ h13)) (hN9.tu tu15) (hpv9.tu tu15) (s15 _ _ h14) (tu15 _ _ g10) bdH (k12 _ _ hb12) (tb9.tu tu15) (hR12.tu (tu_same k12)) SF
  · walk_at "rd"
    refine ⟨s, l, 2, rfl, st6, by decide, by decide, fun r H7 r0 r1 b7 st7 => ?_⟩
    walk_at "rd"
    refine ite2 (fun e => ?_) (fun e => ?_)
    · have hN7 := hN.tu (st6.tu b7)
      walk_at "rd"
      refine ⟨nv, N, rfl, hN7, by omega, by omega, fun pl3 H8 s8 n8 h8 => ?_⟩
      have zz := N.sz_pos
      have pln := poss_len N
      obtain ⟨xs3, pa3, q3, g31, g32, g33, g34, g35⟩ := h8.get (k := N.sz - 1) (by omega)
      obtain ⟨ip3, il3⟩ := poss_is N q3 (List.mem_of_getElem? g34)
      refine ⟨_, _, rfl, rfl, ?_⟩
      refine ⟨pl3, xs3, _, _, rfl, rfl, SqL.of g31, at_neg1 (by rw [g32, pln]; exact g33), ?_⟩
      walk_at "rd"
      refine ⟨nv, .int 9, N, .var 9, pa3, q3, rfl, hN7.tu (tu_same s8), rfl, g35, ip3, by omega, by omega, fun r3 H9 s9 h9 => ?_⟩
      exact cont _ _ ⟨_, _, rfl, h9, .inr ⟨q3, ip3, rfl⟩, b7.trans (but_same (s8.trans s9)), st7.same (s8.trans s9)⟩
    · exact cont _ _ ⟨_, N, rfl, hN.tu (st6.tu b7), .inl rfl, b7, st7⟩

/-! _law_chain -/
def sp_u_law_chain : Sp := fun vs H Q _ => ∃ (s l o : Addr) (fs : List Str) (B : Int) (v : V) (t : Tm) (f m : Nat), vs = [.ref s, .ref o, .int B, v, .int (f : Int), .int (m : Int)] ∧ St H s l ∧ Ops H o fs ∧ 0 ≤ B ∧ B ≤ 9 ∧ TmIn H t v ∧ t.wf fs 9 ∧ m ≤ 1000 ∧ t.sz + 16 * m ≤ 900 ∧ t.dep + 4 * m ≤ 45 ∧
  ∀ (p g sp tl : Addr) (gs ss tvs : List V) (xs : List Lnk) H', But s H H' → St H' s l → H' p = some (.tup [.ref g, .ref sp, .ref tl]) → H g = none → H sp = none → H tl = none → H' g = some (.lst gs) → H' sp = some (.lst ss) → H' tl = some (.lst tvs) → xs.length = m →
    EqsIn H' gs xs → StsIn H' ss (xs.map (·.st)) → TmsIn H' (t :: xs.map (·.t)) tvs → Chn fs t xs → (∀ i x, xs[i]? = some x → x.st.kd = ("given" : Str) ∧ x.st.k = ((f + i : Nat) : Int)) → Q (.ref p) H'
theorem ok_u_law_chain (T : Tx K mg A) : FnOk P w K mg base CX0 (65) A.a_u_law_chain A.d_u_law_chain ["state", "operations", "count", "term", "first", "many"] sp_u_law_chain := by
  have G_u_law_step := ok_u_law_step (P := P) (w := w) (base := base) T
  refine T.F_u_law_chain.ok sc_u_law_chain (fun vs H Q E h => ?_) (fun cdv Ar outer s0 H vs Q E hr h => ?_)
  · obtain ⟨s, l, o, fs, B, v, t, f, m, rfl, _⟩ := h; rfl
  obtain ⟨s, l, o, fs, B, v, t, f, m, rfl, st, op, B0, B9, ht, wt, m1, zt, dt, q0⟩ := h
  refine ⟨_, (pss_cons (ps_set (i := 6) sc_u_law_chain.nd rfl (Or.inl rfl) (pe_lst pa_nil))
    (pss_cons (ps_set (i := 7) sc_u_law_chain.nd rfl (Or.inl rfl) (pe_lst pa_nil))
    (pss_cons (ps_set (i := 8) sc_u_law_chain.nd rfl (Or.inl rfl) (pe_lst (pa_cons (pv 3) pa_nil)))
    (pss_cons (ps_for PassesOwn.never rfl (pi_range1 rfl T.n_range (pa_cons (pv 5) pa_nil)) (pg_name (i := 9) sc_u_law_chain.nd rfl (Or.inl rfl)) (pss_cons (ps_asg (pe_call G_u_law_step (hr.mono (by omega)) rfl T.m_u_law_step T.F_u_law_step.kp T.b_u_law_step .nil pass0 (pa_cons (pv 0) (pa_cons (pv 1) (pa_cons (pv 2) (pa_cons (pv 3) (pa_cons (pe_tup (pa_cons pe_str (pa_cons (pe_op op_add (pv 4) (pv 9)) pa_nil))) pa_nil)))))) (pg_tup (by rfl) (pgs_cons (pg_name (i := 10) sc_u_law_chain.nd rfl (Or.inl rfl)) (pgs_cons (pg_name (i := 11) sc_u_law_chain.nd rfl (Or.inl rfl)) (pgs_cons (pg_name (i := 3) sc_u_law_chain.nd rfl (Or.inl rfl)) pgs_nil)))))
    (pss_cons (ps_expr (pe_bm PySem.F.plainAttrs_list PySem.F.slot_list_append PySem.F.type_list_append mt_append (pv 6) (pa_cons (pv 10) pa_nil)))
    (pss_cons (ps_expr (pe_bm PySem.F.plainAttrs_list PySem.F.slot_list_append PySem.F.type_list_append mt_append (pv 7) (pa_cons (pv 11) pa_nil)))
    (pss_one (ps_expr (pe_bm PySem.F.plainAttrs_list PySem.F.slot_list_append PySem.F.type_list_append mt_append (pv 8) (pa_cons (pv 3) pa_nil))))))))
    (pss_one (ps_ret (pe_tup (pa_cons (pv 6) (pa_cons (pv 7) (pa_cons (pv 8) pa_nil)))))))))), ?_⟩
  walk_at "rd"
  refine ⟨show 0 ≤ sizeLine by decide, ?_⟩
  first | intro g n1 | refine fun g n1 => ?_
  generalize ehn : upd H g _ = H1
  have s1 := J.al_same n1 ehn
  have h1 := J.al_at ehn
  clear ehn
  walk_at "rd"
  refine ⟨show 0 ≤ sizeLine by decide, ?_⟩
  first | intro sp n2 | refine fun sp n2 => ?_
  generalize ehn : upd H1 sp _ = H2
  have s2 := J.al_same n2 ehn
  have h2 := J.al_at ehn
  clear ehn
  walk_at "rd"
  refine ⟨show 1 ≤ sizeLine by decide, ?_⟩
  first | intro tl n3 | refine fun tl n3 => ?_
  generalize ehn : upd H2 tl _ = H3
  have s3 := J.al_same n3 ehn
  have h3 := J.al_at ehn
  clear ehn
  have k3 : Same H H3 := s1.trans (s2.trans s3)
  have hg3 := s3 _ _ (s2 _ _ h1)
  have hp3 := s3 _ _ h2
  have gsp : g ≠ sp := fun z => by rw [z, n2] at h1; cases h1
  have gtl : g ≠ tl := fun z => by rw [z] at h1; rw [s2 _ _ h1] at n3; cases n3
  have sptl : sp ≠ tl := fun z => by rw [z, n3] at h2; cases h2
  have n2' : H sp = none := s1.free n2
  have n3' : H tl = none := (s1.trans s2).free n3
  have sg : s ≠ g := (st.free n1).1
  have lg : l ≠ g := (st.free n1).2
  have ssp : s ≠ sp := (st.free n2').1
  have lsp : l ≠ sp := (st.free n2').2
  have stl : s ≠ tl := (st.free n3').1
  have ltl : l ≠ tl := (st.free n3').2
  have og : o ≠ g := fun z => by obtain ⟨_, _, as, e0, _⟩ := op; rw [z, n1] at e0; cases e0
  have osp : o ≠ sp := fun z => by obtain ⟨_, _, as, e0, _⟩ := op; rw [z, n2'] at e0; cases e0
  have otl : o ≠ tl := fun z => by obtain ⟨_, _, as, e0, _⟩ := op; rw [z, n3'] at e0; cases e0
  have os := op.ne st
  walk_at "rd"
  refine ⟨by omega, by omega, for_range (lo := 0) (n := m) (fun i σ' H' => ∃ (v' : V) (gs ss tvs : List V) (xs : List Lnk) (x1 x2 x3 : Option V), σ' = [some (.ref s), some (.ref o), some (.int B), some v', some (.int (f : Int)), some (.int (m : Int)), some (.ref g), some (.ref sp), some (.ref tl), x1, x2, x3] ∧ H' g = some (.lst gs) ∧ H' sp = some (.lst ss) ∧ H' tl = some (.lst tvs) ∧ xs.length = i ∧
      EqsIn H' gs xs ∧ StsIn H' ss (xs.map (·.st)) ∧ TmsIn H' (t :: xs.map (·.t)) tvs ∧ Chn fs t xs ∧ (∀ i x, xs[i]? = some x → x.st.kd = ("given" : Str) ∧ x.st.k = ((f + i : Nat) : Int)) ∧ TmIn H' (lastT t xs) v' ∧ St H' s l ∧ (∀ a ob, H3 a = some ob → a ≠ s → a ≠ g → a ≠ sp → a ≠ tl → H' a = some ob)) ?_ ?_ ?_⟩
  · exact ⟨v, [], [], [v], [], none, none, none, rfl, hg3, hp3, h3, rfl, trivial, trivial, TmsIn.one (ht.tu (tu_same k3)), trivial, (fun i x e => by simp at e), ht.tu (tu_same k3), st.same k3, fun a ob e _ _ _ _ => e⟩
  · rintro i σ' H4 hi ⟨v', gs, ss, tvs, xs, x1, x2, x3, rfl, hg4, hp4, ht4, xl, eq4, st4, tm4, ch, ix, hv4, S4, f4⟩
    have cl := Chn.last ch wt
    have op4 : Ops H4 o fs := by
      obtain ⟨n1, hl, as, e1, e2, e3⟩ := op
      have notl : ∀ a xs, H a = some (.tup xs) → H4 a = some (.tup xs) := fun a xs e => f4 a _ (k3 _ _ e) (st.ne_tup e) (fun z => by rw [z, ‹H g = none›] at e; cases e) (fun z => by rw [z, n2'] at e; cases e) fun z => by rw [z, n3'] at e; cases e
      exact ⟨n1, hl, as, f4 _ _ (k3 _ _ e1) os og osp otl, e2, fun k f' a e e' => notl _ _ (e3 k f' a e e')⟩
    walk_at "rd"
    refine ⟨show 2 ≤ sizeLine by decide, ?_⟩
    first | intro src n5 | refine fun src n5 => ?_
    generalize ehn : upd H4 src _ = H5
    have s5 := J.al_same n5 ehn
    have h5 := J.al_at ehn
    clear ehn
    have S5 := S4.same s5
    refine ⟨s, l, o, src, fs, B, v', lastT t xs, rfl, S5, op4.same s5, B0, B9, hv4.tu (tu_same s5), cl.1, by omega, by omega, fun p e a pa bd lv rv nv fwd q kvs tb L R t' H6 b6 S6 hp he hL hR ha hpa nbd hbd htb hnv stp => ?_⟩
    have td56 := S5.td b6
    have td46 : Td H4 H6 := (td_same s5).trans td56
    have hg6 := b6 _ _ (s5 _ _ hg4) sg.symm
    have hp6 := b6 _ _ (s5 _ _ hp4) ssp.symm
    have htl6 := b6 _ _ (s5 _ _ ht4) stl.symm
    have e0 : (f : Int) + (0 + (i : Int)) = ((f + i : Nat) : Int) := by omega
    have hsrc : H6 src = some (.tup [.str "given", .int ((f + i : Nat) : Int)]) := by rw [← e0]; exact td56.t _ _ h5
    let x : Lnk := ⟨⟨"given", ((f + i : Nat) : Int), fwd, q, tb⟩, L, R, t'⟩
    have hw : StqIn H6 (.ref a) x.st := ⟨a, src, pa, bd, kvs, rfl, ha, hsrc, hpa, hbd, htb⟩
    refine ⟨p, _, rfl, SqT.of hp, rfl, _, _, rfl, _, _, rfl, _, _, rfl, rfl, ?_⟩
    have lE := eq4.length
    have lS := st4.length
    have lT := tm4.length
    rw [List.length_map] at lS
    rw [List.length_cons, List.length_map] at lT
    walk_at "rd"
    refine ⟨.inl ⟨rfl, _, SqL.of hg6⟩, ?_⟩
    walk_at "rd"
    refine ⟨g, _, _, rfl, rfl, hg6, Nat.lt_of_le_of_lt (show gs.length ≤ 1000 by omega) (by decide), _, rfl, ?_⟩
    generalize ehn : upd H6 g _ = H7
    have b7 := J.al_but ehn
    have h7 := J.al_at ehn
    clear ehn
    have td7 := td_but b7 hg6
    walk_at "rd"
    refine ⟨.inl ⟨rfl, _, SqL.of (b7 _ _ hp6 gsp.symm)⟩, ?_⟩
    walk_at "rd"
    refine ⟨sp, _, _, rfl, rfl, b7 _ _ hp6 gsp.symm, Nat.lt_of_le_of_lt (show ss.length ≤ 1000 by omega) (by decide), _, rfl, ?_⟩
    generalize ehn : upd H7 sp _ = H8
    have b8 := J.al_but ehn
    have h8 := J.al_at ehn
    clear ehn
    have td8 := td_but b8 (b7 _ _ hp6 gsp.symm)
    walk_at "rd"
    have htl8 := b8 _ _ (b7 _ _ htl6 gtl.symm) sptl.symm
    refine ⟨.inl ⟨rfl, _, SqL.of htl8⟩, ?_⟩
    walk_at "rd"
    refine ⟨tl, _, _, rfl, rfl, htl8, Nat.lt_of_le_of_lt (show tvs.length ≤ 1001 by omega) (by decide), ?_⟩
    generalize ehn : upd H8 tl _ = H9
    have b9 := J.al_but ehn
    have h9 := J.al_at ehn
    clear ehn
    have td9 := td_but b9 htl8
    have td69 : Td H6 H9 := td7.trans (td8.trans td9)
    have td49 := td46.trans td69
    have S9 := ((S6.but b7 sg lg).but b8 ssp lsp).but b9 stl ltl
    refine ⟨nv, _, _, _, xs ++ [x], _, _, _, rfl, b9 _ _ (b8 _ _ h7 gsp) gtl, b9 _ _ h8 sptl, h9, by rw [List.length_append, xl]; rfl, (eq4.tu td49.t).snoc ⟨e, lv, rv, rfl, td69.t _ _ he, hL.tu td69.t, hR.tu td69.t⟩, ?_, ?_, Chn.snoc ch stp, ?_, ?_, S9, ?_⟩
    · rw [List.map_append]
      exact (st4.td td49).snoc (hw.td td69)
    · rw [List.map_append, ← List.cons_append]
      exact (tm4.tu td49.t).append (TmsIn.one (hnv.tu td69.t))
    · intro j y e
      by_cases hj : j < xs.length
      · rw [List.getElem?_append_left hj] at e
        exact ix j y e
      · have h4 := (List.getElem?_eq_some_iff.mp e).1
        rw [List.length_append, List.length_singleton] at h4
        have ej : j = i := by omega
        subst ej
        rw [List.getElem?_append_right (by omega), xl, Nat.sub_self] at e
        rw [← (show x = y from Option.some.inj e)]
        exact ⟨rfl, rfl⟩
    · rw [lastT_snoc]; exact hnv.tu td69.t
    · exact fun a ob e n1 n2 n3 n4 => b9 _ _ (b8 _ _ (b7 _ _ (b6 _ _ (s5 _ _ (f4 a ob e n1 n2 n3 n4)) n1) n2) n3) n4
  · rintro σ' H4 ⟨v', gs, ss, tvs, xs, x1, x2, x3, rfl, hg4, hp4, ht4, xl, eq4, st4, tm4, ch, ix, hv4, S4, f4⟩
    walk_at "rd"
    refine ⟨show 3 ≤ sizeLine by decide, ?_⟩
    first | intro p n5 | refine fun p n5 => ?_
    generalize ehn : upd H4 p _ = H5
    have s5 := J.al_same n5 ehn
    have h5 := J.al_at ehn
    clear ehn
    have td := td_same s5
    refine q0 p g sp tl gs ss tvs xs H5 (fun a ob e ne => s5 _ _ (f4 a ob (k3 _ _ e) ne (fun z => ?_) (fun z => ?_) fun z => ?_)) (S4.same s5) h5 n1 n2' n3' (s5 _ _ hg4) (s5 _ _ hp4) (s5 _ _ ht4) xl (eq4.tu td.t) (st4.td td) (tm4.tu td.t) ch ix
    · rw [z, n1] at e; cases e
    · rw [z, n2'] at e; cases e
    · rw [z, n3'] at e; cases e

/-! reverse -/
def sp_reverse : Sp := fun vs H Q _ => ∃ (sp : Addr) (ws : List V) (xs : List Stq), vs = [.ref sp] ∧ H sp = some (.lst ws) ∧ StsIn H ws xs ∧ ws.length ≤ 100000 ∧
  ∀ p rs H', Same H H' → H p = none → H' p = some (.lst rs) → StsIn H' rs (xs.reverse.map Stq.rev) → (∀ w ∈ rs, ∃ a src pa bd b, w = .ref a ∧ H' a = some (.tup [src, b, pa, .ref bd]) ∧ H bd = none) → Q (.ref p) H'
theorem ok_reverse (T : Tx K mg A) : FnOk P w K mg base CX0 (2) A.a_reverse A.d_reverse ["steps"] sp_reverse := by

  refine T.F_reverse.ok sc_reverse (fun vs H Q E h => ?_) (fun cdv Ar outer s0 H vs Q E hr h => ?_)
  · obtain ⟨sp, ws, xs, rfl, _⟩ := h; rfl
  obtain ⟨sp, ws, xs, rfl, hsp, hst, hl, q0⟩ := h
  refine ⟨_, (pss_one (ps_ret (pe_lc (g := gTup K 4 (gCons (gName 1) (gCons (gName 2) (gCons (gName 3) (gCons (gName 4) gNil))))) (own := [("source", 1), ("is_forward", 2), ("position", 3), ("substitution", 4)]) (by rfl) sc_reverse.nd (pi_list (pe_revL (pv 0))) (blkOk_by (own := [("source", 1), ("is_forward", 2), ("position", 3), ("substitution", 4)]) (N := ["steps", "source", "is_forward", "position", "substitution"]) (sc := defScope s_reverse) (by decide +kernel)) (fun _ _ _ _ _ => (pg_tup (by rfl) (pgs_cons (pg_name (i := 1) sc_reverse.nd rfl (Or.inl rfl)) (pgs_cons (pg_name (i := 2) sc_reverse.nd rfl (Or.inl rfl)) (pgs_cons (pg_name (i := 3) sc_reverse.nd rfl (Or.inl rfl)) (pgs_cons (pg_name (i := 4) sc_reverse.nd rfl (Or.inl rfl)) pgs_nil)))))) (fun _ _ _ _ _ => pts_nil) (fun _ _ _ _ _ => (pe_tup (pa_cons (pv 1) (pa_cons (pe_not (pv 2)) (pa_cons (pv 3) (pa_cons (pe_callTy call_dictC (by rfl) T.n_dict boot_dict (pa_cons (pv 4) pa_nil)) pa_nil))))))))), ?_⟩
  walk_at "rd"
  refine ⟨sp, ws, rfl, SqL.of hsp, ?_⟩
  first | intro rv n1 | refine fun rv n1 => ?_
  generalize ehn : upd H rv _ = H1
  have s1 := J.al_same n1 ehn
  have h1 := J.al_at ehn
  clear ehn
  have hr1 := (hst.td (td_same s1)).rev
  have hl1 := hr1.length
  rw [List.length_reverse] at hl1
  refine ⟨_, rfl, ⟨_, SqL.of h1⟩, fun D hD => ?_⟩
  have D0 : H D = none := s1.free hD
  refine lc_list (xs := ws.reverse) (fun i H' => ∃ rs, H' D = some (.lst rs) ∧ StsIn H' rs ((xs.reverse.take i).map Stq.rev) ∧ (∀ w ∈ rs, ∃ a src pa bd b, w = .ref a ∧ H' a = some (.tup [src, b, pa, .ref bd]) ∧ H bd = none) ∧ Same H1 H') ?_ ?_ ?_ ?_
  · exact ⟨[], upd_same, trivial, (fun w hw => nomatch hw), same_new hD _⟩
  · rintro i H' hi ⟨rs, hp, hx, hf, b⟩
    exact SqL.of (b _ _ h1)
  · rintro i y H' hi ⟨rs, hp, hx, hf, b⟩
    obtain ⟨x, gx, hy⟩ := hr1.get hi
    have ix := (List.getElem?_eq_some_iff.mp gx).1
    obtain ⟨a, src, pa, bd, kvs, rfl, ha, hs, hpa, hbd, htb⟩ := hy.td (td_same b)
    have lx := hx.length
    rw [List.length_map, List.length_take] at lx
    refine ⟨a, _, rfl, SqT.of ha, rfl, _, _, rfl, _, _, rfl, _, _, rfl, _, _, rfl, rfl, ?_⟩
    refine ⟨rfl, ?_⟩
    walk_at "rd"
    refine ⟨bd, kvs, rfl, hbd, ?_⟩
    first | intro b2 n2 | refine fun b2 n2 => ?_
    generalize ehn : upd H' b2 _ = H2
    have s2 := J.al_same n2 ehn
    have h2 := J.al_at ehn
    clear ehn
    walk_at "rd"
    refine ⟨show 4 ≤ sizeLine by decide, ?_⟩
    first | intro a2 n3 | refine fun a2 n3 => ?_
    generalize ehn : upd H2 a2 _ = H3
    have s3 := J.al_same n3 ehn
    have h3 := J.al_at ehn
    clear ehn
    have k3 : Same H' H3 := s2.trans s3
    have td3 := td_same k3
    have bH : H b2 = none := s1.free (b.free n2)
    refine ⟨rs, k3 _ _ hp, Nat.lt_of_le_of_lt (show rs.length ≤ 100000 by omega) (by decide), ?_⟩
    have h3D := k3 _ _ hp
    generalize ehn : upd H3 D _ = H4
    have b4 := J.al_but ehn
    have h4 := J.al_at ehn
    clear ehn
    have td4 := td_but b4 h3D
    have td := td3.trans td4
    refine ⟨_, h4, ?_, fun w hw => ?_, fun c o e => b4 c o (k3 _ _ (b c o e)) fun z => by rw [z, hD] at e; cases e⟩
    · rw [list_take_succ gx, List.map_append]
      exact StsIn.snoc (show StqIn H4 (.ref a2) x.rev from ⟨a2, src, pa, b2, kvs, rfl, td4.t _ _ h3, td.t _ _ hs, td.t _ _ hpa, td4.d _ _ (s3 _ _ h2), htb.tu td.t⟩) (hx.td td)
    · rcases List.mem_append.mp hw with z | z
      · obtain ⟨a, src, pa, bd, b', e, h, f⟩ := hf w z
        exact ⟨a, src, pa, bd, b', e, td.t _ _ h, f⟩
      · exact ⟨a2, _, _, b2, _, List.mem_singleton.mp z, td4.t _ _ h3, bH⟩
  · rintro H' ⟨rs, hp, hx, hf, b⟩
    rw [show ws.reverse.length = xs.reverse.length by rw [List.length_reverse]; exact hl1, List.take_length] at hx
    exact q0 D rs H' (s1.trans b) D0 hp hx hf

/-! _law_equation -/
def sp_u_law_equation : Sp := fun vs H Q _ => ∃ (g st a : Addr) (k : Nat) (xs : List V) (e : V), vs = [.ref g, .ref st, .ref a] ∧ H g = some (.lst xs) ∧ H a = some (.tup [.str "given", .int (k : Int)]) ∧ xs[k]? = some e ∧ Q e H
theorem ok_u_law_equation (T : Tx K mg A) : FnOk P w K mg base CX0 (1) A.a_u_law_equation A.d_u_law_equation ["given", "stages", "source"] sp_u_law_equation := by

  refine T.F_u_law_equation.ok sc_u_law_equation (fun vs H Q E h => ?_) (fun cdv Ar outer s0 H vs Q E hr h => ?_)
  · obtain ⟨g, st, a, k, xs, e, rfl, _⟩ := h; rfl
  obtain ⟨g, st, a, k, xs, e, rfl, hg, ha, hk, q⟩ := h
  refine ⟨_, (pss_cons (ps_asg (pv 2) (pg_tup (by rfl) (pgs_cons (pg_name (i := 3) sc_u_law_equation.nd rfl (Or.inl rfl)) (pgs_cons (pg_name (i := 4) sc_u_law_equation.nd rfl (Or.inl rfl)) pgs_nil))))
    (pss_cons (ps_if (pt_cmpR op_eq (pv 3) pe_str (nomark _)) (pss_one (ps_ret (pe_ix (r := rIxL K) ix_list (pv 0) (pv 4) (fun _ _ => rfl)))) pss_nil)
    (pss_one (ps_ret (pe_tup (pa_cons (pe_ix (r := rIxT K) ix_tup (pe_ix (r := rIxL K) ix_list (pv 1) (pv 4) (fun _ _ => rfl)) pe_int (fun _ _ => rfl)) (pa_cons (pe_ix (r := rIxT K) ix_tup (pe_ix (r := rIxL K) ix_list (pv 1) (pv 4) (fun _ _ => rfl)) pe_int (fun _ _ => rfl)) pa_nil))))))), ?_⟩
  walk_at "rd"
  refine ⟨a, _, rfl, SqT.of ha, rfl, _, _, rfl, _, _, rfl, rfl, ?_⟩
  walk_at "rd"
  refine ⟨g, xs, _, e, rfl, rfl, SqL.of hg, atI_nat hk, q⟩

/-! _law_is_step -/
def sp_u_law_is_step : Sp := fun vs H Q _ => ∃ (a src pa bd : Addr) (k : Int) (fwd : Bool) (ps : List V) (kvs : List (Key × V)), vs = [.ref a] ∧ H a = some (.tup [.ref src, .bl fwd, .ref pa, .ref bd]) ∧ H src = some (.tup [.str "given", .int k]) ∧ H pa = some (.tup ps) ∧ H bd = some (.dK kvs) ∧ ∀ H', Same H H' → Q (.bl true) H'
theorem ok_u_law_is_step (T : Tx K mg A) : FnOk P w K mg base CX0 (1) A.a_u_law_is_step A.d_u_law_is_step ["step"] sp_u_law_is_step := by

  refine T.F_u_law_is_step.ok sc_u_law_is_step (fun vs H Q E h => ?_) (fun cdv Ar outer s0 H vs Q E hr h => ?_)
  · obtain ⟨a, src, pa, bd, k, fwd, ps, kvs, rfl, _⟩ := h; rfl
  obtain ⟨a, src, pa, bd, k, fwd, ps, kvs, rfl, ha, hs, hp, hb, q⟩ := h
  refine ⟨_, (pss_cons (ps_if (PW.pt (pw_or (pt_not (pt_val (pe_callB (r := rIsi K) call_isi (by rfl) T.n_isinstance boot_isinstance (pa_cons (pv 0) (pa_cons (pe_bltn (v := .ty "tuple") (by rfl) T.n_tuple boot_tuple rfl) pa_nil))))) (pw_or1 (pt_cmpR op_ne (pe_callB (r := rLenS K) j_len (by rfl) T.n_len PySem.boot_len (pa_cons (pv 0) pa_nil)) pe_int (nomark _))))) (pss_one (ps_ret pe_bl)) pss_nil)
    (pss_cons (ps_if (PW.pt (pw_or (pt_not (pt_val (pe_callB (r := rIsi K) call_isi (by rfl) T.n_isinstance boot_isinstance (pa_cons (pe_ix (r := rIxT K) ix_tup (pv 0) pe_int (fun _ _ => rfl)) (pa_cons (pe_bltn (v := .ty "tuple") (by rfl) T.n_tuple boot_tuple rfl) pa_nil))))) (pw_or (pt_cmpR op_ne (pe_callB (r := rLenS K) j_len (by rfl) T.n_len PySem.boot_len (pa_cons (pe_ix (r := rIxT K) ix_tup (pv 0) pe_int (fun _ _ => rfl)) pa_nil)) pe_int (nomark _)) (pw_or1 (pt_cmpR (r := rIn K true) op_notIn_seq (pe_ix (r := rIxT K) ix_tup (pe_ix (r := rIxT K) ix_tup (pv 0) pe_int (fun _ _ => rfl)) pe_int (fun _ _ => rfl)) (pe_lst (pa_cons pe_str (pa_cons pe_str pa_nil))) rfl))))) (pss_one (ps_ret pe_bl)) pss_nil)
    (pss_cons (ps_if (PW.pt (pw_or (pt_not (pt_val (pe_callB (r := rIsi K) call_isi (by rfl) T.n_isinstance boot_isinstance (pa_cons (pe_ix (r := rIxT K) ix_tup (pe_ix (r := rIxT K) ix_tup (pv 0) pe_int (fun _ _ => rfl)) pe_int (fun _ _ => rfl)) (pa_cons (pe_bltn (v := .ty "int") (by rfl) T.n_int boot_int rfl) pa_nil))))) (pw_or1 (pt_val (pe_callB (r := rIsi K) call_isi (by rfl) T.n_isinstance boot_isinstance (pa_cons (pe_ix (r := rIxT K) ix_tup (pe_ix (r := rIxT K) ix_tup (pv 0) pe_int (fun _ _ => rfl)) pe_int (fun _ _ => rfl)) (pa_cons (pe_bltn (v := .ty "bool") (by rfl) T.n_bool boot_bool rfl) pa_nil))))))) (pss_one (ps_ret pe_bl)) pss_nil)
    (pss_cons (ps_if (PW.pt (pw_and (pt_cmpR op_notBl (pe_ix (r := rIxT K) ix_tup (pv 0) pe_int (fun _ _ => rfl)) pe_bl (nomark _)) (pw_and1 (pt_cmpR op_notBl (pe_ix (r := rIxT K) ix_tup (pv 0) pe_int (fun _ _ => rfl)) pe_bl (nomark _))))) (pss_one (ps_ret pe_bl)) pss_nil)
    (pss_one (ps_ret (pe_and (pe_callB (r := rIsi K) call_isi (by rfl) T.n_isinstance boot_isinstance (pa_cons (pe_ix (r := rIxT K) ix_tup (pv 0) pe_int (fun _ _ => rfl)) (pa_cons (pe_bltn (v := .ty "tuple") (by rfl) T.n_tuple boot_tuple rfl) pa_nil))) (pe_one (pe_callB (r := rIsi K) call_isi (by rfl) T.n_isinstance boot_isinstance (pa_cons (pe_ix (r := rIxT K) ix_tup (pv 0) pe_int (fun _ _ => rfl)) (pa_cons (pe_bltn (v := .ty "dict") (by rfl) T.n_dict boot_dict rfl) pa_nil))))))))))), ?_⟩
  walk_at "ri"
  refine ⟨show 2 ≤ sizeLine by decide, ?_⟩
  first | intro w n1 | refine fun w n1 => ?_
  generalize ehn : upd H w _ = H1
  have s1 := J.al_same n1 ehn
  have h1 := J.al_at ehn
  clear ehn
  have ha1 := s1 _ _ ha
  have hs1 := s1 _ _ hs
  have hp1 := s1 _ _ hp
  have hb1 := s1 _ _ hb
  refine ⟨w, _, rfl, .inl (SqL.of h1), rfl, rfl, ?_⟩
  refine ⟨_, rfl, ?_⟩
  have iv : inV (V.str (Str.ofString "given")) [V.str (Str.ofString "given"), V.str (Str.ofString "stage")] = true := by decide +kernel
  show if (!inV (V.str (Str.ofString "given")) [V.str (Str.ofString "given"), V.str (Str.ofString "stage")]) = true then _ else _
  rw [iv]
  walk_at "ri"
  cases fwd
  · walk_at "ri"
    exact q H1 s1
  · walk_at "ri"
    exact q H1 s1

/-! _law_same -/
def sp_u_law_same (N : Nat) : Sp := fun vs H Q _ => ∃ (v u : V) (t r : Tm), vs = [v, u] ∧ TmIn H t v ∧ TmIn H r u ∧ t.sz ≤ 100000 ∧ t.dep ≤ N ∧ ∀ b H', Same H H' → (b = true ↔ t = r) → Q (.bl b) H'
theorem st_u_law_same (T : Tx K mg A) (N : Nat) (G_u_law_same : FnOk P w K mg base CX0 (N + 1) A.a_u_law_same A.d_u_law_same ["first", "second"] (sp_u_law_same N)) : FnOk P w K mg base CX0 (N + 2) A.a_u_law_same A.d_u_law_same ["first", "second"] (sp_u_law_same (N + 1)) := by

  refine T.F_u_law_same.ok sc_u_law_same (fun vs H Q E h => ?_) (fun cdv Ar outer s0 H vs Q E hr h => ?_)
  · obtain ⟨v, u, t, r, rfl, _⟩ := h; rfl
  obtain ⟨v, u, t, r, rfl, ht, hr', hz, hd, q⟩ := h
  refine ⟨_, (pss_cons (ps_if (PW.pt (pw_or (pt_val (pe_callB (r := rIsi K) call_isi (by rfl) T.n_isinstance boot_isinstance (pa_cons (pv 0) (pa_cons (pe_bltn (v := .ty "bool") (by rfl) T.n_bool boot_bool rfl) pa_nil)))) (pw_or1 (pt_val (pe_callB (r := rIsi K) call_isi (by rfl) T.n_isinstance boot_isinstance (pa_cons (pv 1) (pa_cons (pe_bltn (v := .ty "bool") (by rfl) T.n_bool boot_bool rfl) pa_nil))))))) (pss_one (ps_ret pe_bl)) pss_nil)
    (pss_cons (ps_if (PW.pt (pw_or (pt_val (pe_callB (r := rIsi K) call_isi (by rfl) T.n_isinstance boot_isinstance (pa_cons (pv 0) (pa_cons (pe_bltn (v := .ty "int") (by rfl) T.n_int boot_int rfl) pa_nil)))) (pw_or1 (pt_val (pe_callB (r := rIsi K) call_isi (by rfl) T.n_isinstance boot_isinstance (pa_cons (pv 1) (pa_cons (pe_bltn (v := .ty "int") (by rfl) T.n_int boot_int rfl) pa_nil))))))) (pss_one (ps_ret (pe_and (pe_callB (r := rIsi K) call_isi (by rfl) T.n_isinstance boot_isinstance (pa_cons (pv 0) (pa_cons (pe_bltn (v := .ty "int") (by rfl) T.n_int boot_int rfl) pa_nil))) (pe_and (pe_callB (r := rIsi K) call_isi (by rfl) T.n_isinstance boot_isinstance (pa_cons (pv 1) (pa_cons (pe_bltn (v := .ty "int") (by rfl) T.n_int boot_int rfl) pa_nil))) (pe_one (pe_cmpR op_eq (pv 0) (pv 1) (nomark _))))))) pss_nil)
    (pss_cons (ps_if (PW.pt (pw_or (pt_not (pt_val (pe_callB (r := rIsi K) call_isi (by rfl) T.n_isinstance boot_isinstance (pa_cons (pv 0) (pa_cons (pe_bltn (v := .ty "tuple") (by rfl) T.n_tuple boot_tuple rfl) pa_nil))))) (pw_or (pt_not (pt_val (pe_callB (r := rIsi K) call_isi (by rfl) T.n_isinstance boot_isinstance (pa_cons (pv 1) (pa_cons (pe_bltn (v := .ty "tuple") (by rfl) T.n_tuple boot_tuple rfl) pa_nil))))) (pw_or1 (pt_cmpR op_ne (pe_callB (r := rLenS K) j_len (by rfl) T.n_len PySem.boot_len (pa_cons (pv 0) pa_nil)) (pe_callB (r := rLenS K) j_len (by rfl) T.n_len PySem.boot_len (pa_cons (pv 1) pa_nil)) (nomark _)))))) (pss_one (ps_ret pe_bl)) pss_nil)
    (pss_cons (ps_if (PW.pt (pw_or (pt_cmpR op_eq (pe_callB (r := rLenS K) j_len (by rfl) T.n_len PySem.boot_len (pa_cons (pv 0) pa_nil)) pe_int (nomark _)) (pw_or (pt_not (pt_val (pe_callB (r := rIsi K) call_isi (by rfl) T.n_isinstance boot_isinstance (pa_cons (pe_ix (r := rIxT K) ix_tup (pv 0) pe_int (fun _ _ => rfl)) (pa_cons (pe_bltn (v := .ty "str") (by rfl) T.n_str boot_str rfl) pa_nil))))) (pw_or1 (pt_cmpR op_ne (pe_ix (r := rIxT K) ix_tup (pv 0) pe_int (fun _ _ => rfl)) (pe_ix (r := rIxT K) ix_tup (pv 1) pe_int (fun _ _ => rfl)) (nomark _)))))) (pss_one (ps_ret pe_bl)) pss_nil)
    (pss_cons (ps_for PassesOwn.never rfl (pi_range2 rfl T.n_range (pa_cons pe_int (pa_cons (pe_callB (r := rLenS K) j_len (by rfl) T.n_len PySem.boot_len (pa_cons (pv 0) pa_nil)) pa_nil))) (pg_name (i := 2) sc_u_law_same.nd rfl (Or.inl rfl)) (pss_one (ps_if (pt_not (pt_val (pe_call G_u_law_same (hr.mono (by omega)) rfl T.m_u_law_same T.F_u_law_same.kp T.b_u_law_same .nil pass0 (pa_cons (pe_ix (r := rIxT K) ix_tup (pv 0) (pv 2) (fun _ _ => rfl)) (pa_cons (pe_ix (r := rIxT K) ix_tup (pv 1) (pv 2) (fun _ _ => rfl)) pa_nil))))) (pss_one (ps_ret pe_bl)) pss_nil)))
    (pss_one (ps_ret pe_bl))))))), ?_⟩
  cases t with
  | var n =>
    cases (show v = .int n from ht)
    cases r with
    | var m =>
      cases (show u = .int m from hr')
      walk_at "ri"
      refine q _ H (Same.refl _) ?_
      rw [decide_eq_true_iff]
      exact ⟨fun e => by injection e with e; rw [e], fun e => by injection e with e; rw [e]⟩
    | app g rs =>
      obtain ⟨b, ws, rfl, hb, hrs⟩ := hr'
      walk_at "ri"
      exact q _ H (Same.refl _) ⟨(fun e => nomatch e), (fun e => nomatch e)⟩
  | app f ts =>
    obtain ⟨a, vs, rfl, ha, hts⟩ := ht
    cases r with
    | var m =>
      cases (show u = .int m from hr')
      walk_at "ri"
      exact q _ H (Same.refl _) ⟨(fun e => nomatch e), (fun e => nomatch e)⟩
    | app g rs =>
      obtain ⟨b, ws, rfl, hb, hrs⟩ := hr'
      have l1 := hts.length
      have l2 := hrs.length
      walk_at "ri"
      refine ifNe (fun e => ?_) (fun e => ?_)
      · walk_at "rd"
        refine q _ H (Same.refl _) ⟨(fun z => nomatch z), fun z => ?_⟩
        injection z with _ z
        have e : ((vs.length + 1 : Nat) : Int) ≠ ((ws.length + 1 : Nat) : Int) := e
        rw [z] at l1
        exact absurd (by rw [l1, l2]) e
      · have e : ((vs.length + 1 : Nat) : Int) = ((ws.length + 1 : Nat) : Int) := e
        have el : ts.length = rs.length := by omega
        walk_at "ri"
        refine ifNeS (fun e1 => ?_) (fun e1 => ?_)
        · walk_at "rd"
          refine q _ H (Same.refl _) ⟨(fun z => nomatch z), fun z => ?_⟩
          injection z with z _
          exact absurd z e1
        · subst e1
          have hz : 1 + Tm.szs ts ≤ 100000 := hz
          have hll := Tm.len_le ts
          walk_at "rd"
          refine ⟨1, _, rfl, ⟨by decide, by decide, ?_, ?_⟩, ?_⟩
          · show -(2 ^ 62) ≤ ((vs.length + 1 : Nat) : Int); omega
          · show ((vs.length + 1 : Nat) : Int) < 2 ^ 62; omega
          have en : (((V.str f :: vs).length : Int) - 1).toNat = ts.length := by
            show (((vs.length + 1 : Nat) : Int) - 1).toNat = _
            omega
          rw [en]
          refine for_range (lo := 1) (n := ts.length) (fun i σ' H' => ∃ x, σ' = [some (.ref a), some (.ref b), x] ∧ Same H H' ∧ ts.take i = rs.take i) ?_ ?_ ?_
          · exact ⟨none, rfl, Same.refl _, rfl⟩
          · rintro i σ' H' hi ⟨x, rfl, s, ei⟩
            obtain ⟨v1, gv1, hv1⟩ := hts.get' (List.getElem?_eq_getElem hi)
            obtain ⟨v2, gv2, hv2⟩ := hrs.get' (List.getElem?_eq_getElem (l := rs) (i := i) (by omega))
            have mt : ts[i] ∈ ts := List.getElem_mem hi
            have := Tm.sz_arg mt
            have e1 : (1 : Int) + (i : Int) = ((i + 1 : Nat) : Int) := by omega
            have gt1 : atI (V.str f :: vs) ((1 : Int) + (i : Int)) = some v1 := by rw [e1]; exact atI_nat (j := i + 1) (by rw [List.getElem?_cons_succ]; exact gv1)
            have gt2 : atI (V.str f :: ws) ((1 : Int) + (i : Int)) = some v2 := by rw [e1]; exact atI_nat (j := i + 1) (by rw [List.getElem?_cons_succ]; exact gv2)
            replace ha := s _ _ ha
            replace hb := s _ _ hb
            walk_at "rd"
            refine ⟨v1, v2, _, _, rfl, hv1.tu (tu_same s), hv2.tu (tu_same s), by omega, TmIn.dep_arg hd mt, fun b1 H1 s1 hb1 => ?_⟩
            walk_at "rd"
            refine ifNB (fun z => ?_) (fun z => ?_)
            · walk_at "rd"
              refine q _ H1 (s.trans s1) ⟨(fun w => nomatch w), fun w => ?_⟩
              injection w with _ w
              subst w
              rw [z] at hb1
              exact nomatch hb1.mpr rfl
            · refine ⟨_, rfl, s.trans s1, ?_⟩
              have := hb1.mp z
              rw [list_take_succ (List.getElem?_eq_getElem hi), list_take_succ (List.getElem?_eq_getElem (l := rs) (i := i) (by omega)), ei, this]
          · rintro σ' H' ⟨x, rfl, s, ei⟩
            walk_at "rd"
            refine q _ H' s ⟨fun _ => ?_, fun _ => rfl⟩
            rw [List.take_length, el, List.take_length] at ei
            rw [ei]

theorem all_u_law_same (T : Tx K mg A) : ∀ N : Nat, FnOk P w K mg base CX0 (N + 1) A.a_u_law_same A.d_u_law_same ["first", "second"] (sp_u_law_same N)
  | 0 => fn_none fun vs H Q E h => by obtain ⟨v, u, t, r, _, _, _, _, hd, _⟩ := h; have := t.dep_pos; omega
  | N + 1 => st_u_law_same T N (all_u_law_same T N)
theorem ok_u_law_same (T : Tx K mg A) : FnOk P w K mg base CX0 61 A.a_u_law_same A.d_u_law_same ["first", "second"] (sp_u_law_same 60) := all_u_law_same T 60

/-! _law_has_position -/
def sp_u_law_has_position : Sp := fun vs H Q _ => ∃ (v : V) (t : Tm) (a : Addr) (q : List Int), vs = [v, .ref a] ∧ TmIn H t v ∧ t.sz ≤ 100000 ∧ H a = some (.tup (q.map V.int)) ∧ ∀ b H', Same H H' → (b = true ↔ IsPos q t) → Q (.bl b) H'
theorem ok_u_law_has_position (T : Tx K mg A) : FnOk P w K mg base CX0 (1) A.a_u_law_has_position A.d_u_law_has_position ["term", "position"] sp_u_law_has_position := by

  refine T.F_u_law_has_position.ok sc_u_law_has_position (fun vs H Q E h => ?_) (fun cdv Ar outer s0 H vs Q E hr h => ?_)
  · obtain ⟨v, t, a, q, rfl, _⟩ := h; rfl
  obtain ⟨v, t, a, q, rfl, ht, hz, hq, q0⟩ := h
  refine ⟨_, (pss_cons (ps_for PassesOwn.never rfl (pi_tup (pv 1)) (pg_name (i := 2) sc_u_law_has_position.nd rfl (Or.inl rfl)) (pss_cons (ps_if (PW.pt (pw_or (pt_val (pe_callB (r := rIsi K) call_isi (by rfl) T.n_isinstance boot_isinstance (pa_cons (pv 0) (pa_cons (pe_bltn (v := .ty "int") (by rfl) T.n_int boot_int rfl) pa_nil)))) (pw_or1 (pt_not (pt_chain op_le op_lt pe_int (pv 2) (pe_callB (r := rLenS K) j_len (by rfl) T.n_len PySem.boot_len (pa_cons (pv 0) pa_nil))))))) (pss_one (ps_ret pe_bl)) pss_nil)
    (pss_one (ps_set (i := 0) sc_u_law_has_position.nd rfl (Or.inl rfl) (pe_ix (r := rIxT K) ix_tup (pv 0) (pv 2) (fun _ _ => rfl))))))
    (pss_one (ps_ret pe_bl))), ?_⟩
  refine ⟨_, rfl, ?_⟩
  refine ⟨_, rfl, ⟨_, SqT.of hq⟩, for_tup (xs := q.map V.int) (fun i σ' H' => ∃ v1 t1 x, σ' = [some v1, some (.ref a), x] ∧ at? (q.take i) t = some t1 ∧ TmIn H' t1 v1 ∧ Same H H') ?_ ?_ ?_ ?_⟩
  · exact ⟨v, t, none, rfl, rfl, ht, Same.refl _⟩
  · rintro i σ' H' hi ⟨v1, t1, x, rfl, h1, h2, s1⟩
    exact SqT.of (s1 _ _ hq)
  · rintro i y σ' H' hi ⟨v1, t1, x, rfl, h1, h2, s1⟩
    obtain ⟨k, gk, rfl⟩ := map_get hi
    have hi' : i < q.length := (List.getElem?_eq_some_iff.mp gk).1
    have bad : ¬ IsPos [k] t1 → ¬ IsPos q t := fun h z => by
      obtain ⟨c, hc⟩ := isPos_take z (i + 1)
      rw [at_step gk h1] at hc
      exact h ((isPos_at [k] t1).mpr ⟨c, hc⟩)
    have no : ¬ IsPos [k] t1 → Q (.bl false) H' := fun h => q0 false H' s1 ⟨fun z => (nomatch z), fun z => absurd z (bad h)⟩
    cases t1 with
    | var n =>
      cases (show v1 = .int n from h2)
      walk_at "ri"
      exact no fun z => z.elim
    | app f ts =>
      obtain ⟨c, us, rfl, hc, hts⟩ := h2
      have hul := hts.length
      walk_at "ri"
      refine ifD (fun e1 => ?_) (fun e1 => ?_)
      · walk_at "rd"
        refine ifN (fun e2 => ?_) (fun e2 => ?_)
        · walk_at "rd"
          have e2 : ¬ k < ((us.length + 1 : Nat) : Int) := e2
          refine no fun z => ?_
          obtain ⟨_, _, _, e0, h, h2⟩ := isPos_one.mp z
          cases e0
          have := (List.getElem?_eq_some_iff.mp h2).1
          omega
        · have e2 : k < ((us.length + 1 : Nat) : Int) := e2
          obtain ⟨j, rfl⟩ : ∃ j : Nat, k = ((j + 1 : Nat) : Int) := ⟨(k - 1).toNat, by omega⟩
          have ej : (((j + 1 : Nat) : Int) - 1).toNat = j := by omega
          have hj : j < ts.length := by omega
          have gj := List.getElem?_eq_getElem hj
          obtain ⟨v2, gv2, hv2⟩ := hts.get' gj
          have hn : at? (q.take (i + 1)) t = some ts[j] := by
            rw [at_step gk h1, at_cons_app, if_pos (by omega), ej, gj]; rfl
          walk_at "rd"
          refine ⟨c, _, _, v2, rfl, rfl, SqT.of hc, atI_nat (j := j + 1) (by rw [List.getElem?_cons_succ]; exact gv2), ?_⟩
          exact ⟨_, _, _, rfl, hn, hv2, s1⟩
      · walk_at "rd"
        refine no fun z => ?_
        obtain ⟨_, _, _, _, h, _⟩ := isPos_one.mp z
        omega
  · rintro σ' H' ⟨v1, t1, x, rfl, h1, h2, s1⟩
    rw [List.length_map, List.take_length] at h1
    walk_at "rd"
    exact q0 true H' s1 ⟨fun _ => (isPos_at q t).mpr ⟨t1, h1⟩, fun _ => rfl⟩

/-! _law_next -/
def sp_u_law_next : Sp := fun vs H Q _ => ∃ (g sg : Addr) (v : V) (t : Tm) (a src pa bd : Addr) (k : Nat) (fwd : Bool) (q : List Int) (tb : List (Int × Tm)) (xs : List V) (e : Addr) (lv rv : V) (L R c : Tm),
  vs = [.ref g, .ref sg, v, .ref a] ∧ TmIn H t v ∧ StepIn H a src pa bd k fwd q tb ∧ H g = some (.lst xs) ∧ H sg = some (.lst []) ∧ xs[k]? = some (.ref e) ∧ xs.length ≤ 1000 ∧ H e = some (.tup [lv, rv]) ∧ TmIn H L lv ∧ TmIn H R rv ∧
  t.sz ≤ 20000 ∧ t.dep ≤ 58 ∧ L.sz ≤ 20000 ∧ L.dep ≤ 58 ∧ R.sz ≤ 20000 ∧ R.dep ≤ 58 ∧ at? q t = some c ∧
  tb.length = (adds (vars L) (vars R)).length ∧ (∀ n ∈ adds (vars L) (vars R), look tb n ≠ none) ∧
  c = sub (look tb) (if fwd then L else R) ∧ (sub (look tb) (if fwd then R else L)).sz ≤ 50000 ∧
  ∀ r H', Same H H' → TmIn H' (rep (sub (look tb) (if fwd then R else L)) q t) r → Q r H'
theorem ok_u_law_next (T : Tx K mg A) : FnOk P w K mg base CX0 (63) A.a_u_law_next A.d_u_law_next ["given", "stages", "term", "step"] sp_u_law_next := by
  have G_u_law_equation := ok_u_law_equation (P := P) (w := w) (base := base) T
  have G_u_law_has_position := ok_u_law_has_position (P := P) (w := w) (base := base) T
  have G_u_law_is_step := ok_u_law_is_step (P := P) (w := w) (base := base) T
  have G_u_law_replace := ok_u_law_replace (P := P) (w := w) (base := base) T
  have G_u_law_same := ok_u_law_same (P := P) (w := w) (base := base) T
  have G_u_law_substitute := ok_u_law_substitute (P := P) (w := w) (base := base) T
  have G_u_law_subterm := ok_u_law_subterm (P := P) (w := w) (base := base) T
  have G_u_law_variables := ok_u_law_variables (P := P) (w := w) (base := base) T
  refine T.F_u_law_next.ok sc_u_law_next (fun vs H Q E h => ?_) (fun cdv Ar outer s0 H vs Q E hr h => ?_)
  · obtain ⟨g, sg, v, t, a, src, pa, bd, k, fwd, q, tb, xs, e, lv, rv, L, R, c, rfl, _⟩ := h; rfl
  obtain ⟨g, sg, v, t, a, src, pa, bd, k, fwd, q, tb, xs, e, lv, rv, L, R, c, rfl, ht, sn, hg', hsg, hx, hxl, he, hL, hR, zt, dt, zL, dL, zR, dR, hc, tl, tn, ce, zs, q0⟩ := h
  refine ⟨_, (pss_cons (ps_if (pt_not (pt_truth (pe_call G_u_law_is_step (hr.mono (by omega)) rfl T.m_u_law_is_step T.F_u_law_is_step.kp T.b_u_law_is_step .nil pass0 (pa_cons (pv 3) pa_nil)) (by intro _; rfl))) (pss_one (ps_ret pe_non)) pss_nil)
    (pss_cons (ps_asg (pe_ix (r := rIxT K) ix_tup (pv 3) pe_int (fun _ _ => rfl)) (pg_tup (by rfl) (pgs_cons (pg_name (i := 4) sc_u_law_next.nd rfl (Or.inl rfl)) (pgs_cons (pg_name (i := 5) sc_u_law_next.nd rfl (Or.inl rfl)) pgs_nil))))
    (pss_cons (ps_set (i := 6) sc_u_law_next.nd rfl (Or.inl rfl) (pe_callB (r := rLenS K) j_len (by rfl) T.n_len PySem.boot_len (pa_cons (pv 1) pa_nil)))
    (pss_cons (ps_if (pt_cmpR op_eq (pv 4) pe_str (nomark _)) (pss_one (ps_set (i := 6) sc_u_law_next.nd rfl (Or.inl rfl) (pe_callB (r := rLenS K) j_len (by rfl) T.n_len PySem.boot_len (pa_cons (pv 0) pa_nil)))) pss_nil)
    (pss_cons (ps_if (PW.pt (pw_or (pt_not (pt_chain op_le op_lt pe_int (pv 5) (pv 6))) (pw_or1 (pt_not (pt_truth (pe_call G_u_law_has_position (hr.mono (by omega)) rfl T.m_u_law_has_position T.F_u_law_has_position.kp T.b_u_law_has_position .nil pass0 (pa_cons (pv 2) (pa_cons (pe_ix (r := rIxT K) ix_tup (pv 3) pe_int (fun _ _ => rfl)) pa_nil))) (by intro _; rfl)))))) (pss_one (ps_ret pe_non)) pss_nil)
    (pss_cons (ps_asg (pe_call G_u_law_equation (hr.mono (by omega)) rfl T.m_u_law_equation T.F_u_law_equation.kp T.b_u_law_equation .nil pass0 (pa_cons (pv 0) (pa_cons (pv 1) (pa_cons (pe_ix (r := rIxT K) ix_tup (pv 3) pe_int (fun _ _ => rfl)) pa_nil)))) (pg_tup (by rfl) (pgs_cons (pg_name (i := 7) sc_u_law_next.nd rfl (Or.inl rfl)) (pgs_cons (pg_name (i := 8) sc_u_law_next.nd rfl (Or.inl rfl)) pgs_nil))))
    (pss_cons (ps_set (i := 9) sc_u_law_next.nd rfl (Or.inl rfl) (pe_call G_u_law_variables (hr.mono (by omega)) rfl T.m_u_law_variables T.F_u_law_variables.kp T.b_u_law_variables .nil pass0 (pa_cons (pv 7) pa_nil)))
    (pss_cons (ps_for PassesOwn.never rfl (pi_list (pe_call G_u_law_variables (hr.mono (by omega)) rfl T.m_u_law_variables T.F_u_law_variables.kp T.b_u_law_variables .nil pass0 (pa_cons (pv 8) pa_nil))) (pg_name (i := 10) sc_u_law_next.nd rfl (Or.inl rfl)) (pss_one (ps_if (pt_cmpR (r := rIn K true) op_notIn_seq (pv 10) (pv 9) rfl) (pss_one (ps_expr (pe_bm PySem.F.plainAttrs_list PySem.F.slot_list_append PySem.F.type_list_append mt_append (pv 9) (pa_cons (pv 10) pa_nil)))) pss_nil)))
    (pss_cons (ps_if (pt_cmpR op_ne (pe_callB call_lenD (by rfl) T.n_len PySem.boot_len (pa_cons (pe_ix (r := rIxT K) ix_tup (pv 3) pe_int (fun _ _ => rfl)) pa_nil)) (pe_callB (r := rLenS K) j_len (by rfl) T.n_len PySem.boot_len (pa_cons (pv 9) pa_nil)) (nomark _)) (pss_one (ps_ret pe_non)) pss_nil)
    (pss_cons (ps_for PassesOwn.never rfl (pi_list (pv 9)) (pg_name (i := 10) sc_u_law_next.nd rfl (Or.inl rfl)) (pss_one (ps_if (pt_cmp (pc_dnotin (hu_of hr) (pv 10) (pe_ix (r := rIxT K) ix_tup (pv 3) pe_int (fun _ _ => rfl)))) (pss_one (ps_ret pe_non)) pss_nil)))
    (pss_cons (ps_if (pt_not (pt_truth (pe_ix (r := rIxT K) ix_tup (pv 3) pe_int (fun _ _ => rfl)) (by intro _; rfl))) (pss_one (ps_par (i := 7) (j := 8) (by rfl) sc_u_law_next.nd rfl rfl (by decide) rfl rfl (pa_cons (pv 8) (pa_cons (pv 7) pa_nil)) rfl)) pss_nil)
    (pss_cons (ps_if (pt_not (pt_val (pe_call G_u_law_same (hr.mono (by omega)) rfl T.m_u_law_same T.F_u_law_same.kp T.b_u_law_same .nil pass0 (pa_cons (pe_call G_u_law_subterm (hr.mono (by omega)) rfl T.m_u_law_subterm T.F_u_law_subterm.kp T.b_u_law_subterm .nil pass0 (pa_cons (pv 2) (pa_cons (pe_ix (r := rIxT K) ix_tup (pv 3) pe_int (fun _ _ => rfl)) pa_nil))) (pa_cons (pe_call G_u_law_substitute (hr.mono (by omega)) rfl T.m_u_law_substitute T.F_u_law_substitute.kp T.b_u_law_substitute .nil pass0 (pa_cons (pv 7) (pa_cons (pe_ix (r := rIxT K) ix_tup (pv 3) pe_int (fun _ _ => rfl)) pa_nil))) pa_nil))))) (pss_one (ps_ret pe_non)) pss_nil)
    (pss_one (ps_ret (pe_call G_u_law_replace (hr.mono (by omega)) rfl T.m_u_law_replace T.F_u_law_replace.kp T.b_u_law_replace .nil pass0 (pa_cons (pv 2) (pa_cons (pe_ix (r := rIxT K) ix_tup (pv 3) pe_int (fun _ _ => rfl)) (pa_cons (pe_call G_u_law_substitute (hr.mono (by omega)) rfl T.m_u_law_substitute T.F_u_law_substitute.kp T.b_u_law_substitute .nil pass0 (pa_cons (pv 8) (pa_cons (pe_ix (r := rIxT K) ix_tup (pv 3) pe_int (fun _ _ => rfl)) pa_nil))) pa_nil)))))))))))))))))), ?_⟩
  obtain ⟨kvs, hb, htb⟩ := sn.tb
  walk_at "rd"
  refine ⟨a, src, pa, bd, k, fwd, _, kvs, rfl, sn.st, sn.so, sn.po, hb, fun H1 s1 => ?_⟩
  have sn1 := sn.same s1
  have st1 := sn1.st
  have so1 := sn1.so
  have po1 := sn1.po
  have hg1 := s1 _ _ hg'
  have hsg1 := s1 _ _ hsg
  walk_at "rd"
  refine ⟨src, _, rfl, SqT.of so1, rfl, _, _, rfl, _, _, rfl, rfl, ?_⟩
  have kx : k < xs.length := (List.getElem?_eq_some_iff.mp hx).1
  walk_at "rd"
  refine ifN (fun e => ?_) (fun _ => ?_)
  · exact absurd (show (k : Int) < (xs.length : Int) by omega) e
  walk_at "rd"
  refine ⟨v, t, pa, q, rfl, ht.tu (tu_same s1), by omega, po1, fun b H2 s2 hbq => ?_⟩
  rw [hbq.mpr ((isPos_at q t).mpr ⟨c, hc⟩)]
  have sn2 := sn1.same s2
  have st2 := sn2.st
  have k12 : Same H H2 := s1.trans s2
  have hg2 := k12 _ _ hg'
  have he2 := k12 _ _ he
  have tu2 := tu_same k12
  walk_at "rd"
  refine ⟨g, sg, src, k, xs, .ref e, rfl, hg2, sn2.so, hx, ?_⟩
  refine ⟨e, _, rfl, SqT.of he2, rfl, _, _, rfl, _, _, rfl, rfl, ?_⟩
  walk_at "rd"
  refine ⟨lv, L, rfl, hL.tu tu2, by omega, by omega, fun p3 H3 s3 n3 h3 => ?_⟩
  walk_at "rd"
  refine ⟨rv, R, rfl, (hR.tu tu2).tu (tu_same s3), by omega, by omega, fun p4 H4 s4 n4 h4 => ?_⟩
  have p43 : p4 ≠ p3 := fun z => by rw [z, h3] at n4; cases n4
  have h34 := s4 _ _ h3
  have k24 : Same H2 H4 := s3.trans s4
  have vlen : ∀ t : Tm, t.sz ≤ 20000 → (vars t).length ≤ 20000 := fun t h => by
    have h1 : (vars t).length ≤ 0 + _ := adds_len (occ t) []
    have := occ_len t
    omega
  have vL := vlen L zL
  have vR := vlen R zR
  have kH4 : Same H H4 := k12.trans k24
  have p30 : H p3 = none := k12.free n3
  refine ⟨_, rfl, ⟨_, SqL.of h4⟩, for_list (K := K) (a := p4) (xs := (vars R).map V.int) (fun i σ' H' => ∃ x, σ' = [some (.ref g), some (.ref sg), some v, some (.ref a), some (.str "given"), some (.int (k : Int)), some (.int ((xs.length : Nat) : Int)), some lv, some rv, some (.ref p3), x] ∧ H' p3 = some (.lst ((adds (vars L) ((vars R).take i)).map V.int)) ∧ But p3 H4 H') ?_ ?_ ?_ ?_⟩
  · exact ⟨none, rfl, h34, But.refl _ _⟩
  · rintro i σ' H' hi ⟨x, rfl, hp, b⟩
    exact SqL.of (b _ _ h4 p43)
  · rintro i y σ' H' hi ⟨x, rfl, hp, b⟩
    obtain ⟨n, gn, rfl⟩ := map_get hi
    have e : adds (vars L) ((vars R).take (i + 1)) = (if n ∈ adds (vars L) ((vars R).take i) then adds (vars L) ((vars R).take i) else adds (vars L) ((vars R).take i) ++ [n]) := by
      rw [list_take_succ gn, adds_app]; rfl
    have hl : (adds (vars L) ((vars R).take i)).length ≤ 40000 := by
      have h1 := adds_len ((vars R).take i) (vars L)
      rw [List.length_take] at h1
      omega
    walk_at "rd"
    refine ⟨(by rw [List.all_map]; exact List.all_eq_true.mpr fun _ _ => rfl), _, rfl, ?_⟩
    show if (!inV (.int n) ((adds (vars L) ((vars R).take i)).map V.int)) = true then _ else _
    rw [inV_ints]
    refine ifN (fun e2 => ?_) (fun e2 => ?_)
    · walk_at "rd"
      refine ⟨.inl ⟨rfl, _, SqL.of hp⟩, _, rfl, p3, _, _, rfl, rfl, hp, by rw [List.length_map]; exact Nat.lt_of_le_of_lt hl (by decide), _, rfl, ?_, b.upd _⟩
      rw [upd_same, e, if_neg e2, List.map_append]; rfl
    · walk_at "rd"
      exact ⟨by rw [hp, e, if_pos e2], b⟩
  · rintro σ' H5 ⟨x, rfl, hp5, b5⟩
    rw [List.length_map, List.take_length] at hp5
    have kH5 : Same H H5 := b5.same kH4 p30
    have sn5 := sn.same kH5
    have st5 := sn5.st
    obtain ⟨kvs5, hb5, htb5⟩ := sn5.tb
    walk_at "rd"
    have kl := htb5.length
    refine ⟨bd, kvs5, rfl, hb5, ?_⟩
    walk_at "rd"
    refine ifNe (fun z => absurd (show (kvs5.length : Int) = ((((adds (vars L) (vars R)).map V.int).length : Nat) : Int) by rw [List.length_map, ← tl, kl]) z) (fun _ => ?_)
    walk_at "rd"
    refine ⟨⟨_, SqL.of hp5⟩, for_list (K := K) (a := p3) (xs := (adds (vars L) (vars R)).map V.int) (fun i σ' H' => ∃ x, σ' = [some (.ref g), some (.ref sg), some v, some (.ref a), some (.str "given"), some (.int (k : Int)), some (.int ((xs.length : Nat) : Int)), some lv, some rv, some (.ref p3), x] ∧ Same H5 H') ?_ ?_ ?_ ?_⟩
    · exact ⟨x, rfl, Same.refl _⟩
    · rintro i σ' H' hi ⟨x, rfl, k⟩
      exact SqL.of (k _ _ hp5)
    · rintro i y σ' H' hi ⟨x, rfl, k'⟩
      obtain ⟨n, gn, rfl⟩ := map_get hi
      have hn := tn n (List.mem_of_getElem? gn)
      have st6 := k' _ _ st5
      have hb6 := k' _ _ hb5
      have hv := (htb5.tu (tu_same k')).val n
      cases hlk : look tb n with
      | none => exact absurd hlk hn
      | some u =>
        rw [hlk] at hv
        obtain ⟨w, hw, _⟩ := hv
        walk_at "rd"
        refine ⟨bd, _, rfl, DGet.k (k := Sum.inl n) hb6, ?_⟩
        rw [hw]
        exact ⟨_, rfl, _, rfl, k'⟩
    · rintro σ' H6 ⟨x, rfl, k6⟩
      have kH6 : Same H H6 := kH5.trans k6
      have sn6 := sn.same kH6
      have st6 := sn6.st
      obtain ⟨kvs6, hb6, htb6⟩ := sn6.tb
      have po6 := sn6.po
      have tu6 := tu_same kH6
      have zc := at_sz _ _ _ hc
      have ql : q.length < 60 := by
        have := at_len q t c hc
        omega
      walk_at "rd"
      cases fwd
      · have ce : c = sub (look tb) R := ce
        have zs : (sub (look tb) L).sz ≤ 50000 := zs
        have q0 : ∀ r H', Same H H' → TmIn H' (rep (sub (look tb) L) q t) r → Q r H' := q0
        walk_at "rd"
        refine ⟨_, _, rfl, ?_⟩
        walk_at "rd"
        refine ⟨v, t, c, pa, q, rfl, ht.tu tu6, po6, hc, fun cv H7 s7 hcv => ?_⟩
        have st7 := s7 _ _ st6
        have hb7 := s7 _ _ hb6
        have tb7 := htb6.tu (tu_same s7)
        have tu7 := tu6.trans (tu_same s7)
        walk_at "rd"
        refine ⟨rv, R, bd, look tb, rfl, hR.tu tu7, TbIn.sb hb7 tb7, by omega, by omega, fun r1 H8 s8 hr1 => ?_⟩
        have st8 := s8 _ _ st7
        have tu8 := tu7.trans (tu_same s8)
        walk_at "rd"
        refine ⟨cv, r1, c, sub (look tb) R, rfl, hcv.tu (tu_same s8), hr1, by omega, by omega, fun b H9 s9 hb9 => ?_⟩
        rw [hb9.mpr ce]
        have s79 : Same H7 H9 := s8.trans s9
        have st9 := s79 _ _ st7
        have hb9' := s79 _ _ hb7
        have tb9 := tb7.tu (tu_same s79)
        have tu9 := tu7.trans (tu_same s79)
        have po9 := (s7.trans s79) _ _ po6
        walk_at "rd"
        refine ⟨lv, L, bd, look tb, rfl, hL.tu tu9, TbIn.sb hb9' tb9, by omega, by omega, fun r2 H10 s10 hr2 => ?_⟩
        have st10 := s10 _ _ st9
        have po10 := s10 _ _ po9
        have tu10 := tu9.trans (tu_same s10)
        walk_at "rd"
        refine ⟨v, r2, t, sub (look tb) L, pa, q, rfl, ht.tu tu10, hr2, po10, (isPos_at q t).mpr ⟨c, hc⟩, by omega, by omega, fun r3 H11 s11 hr3 => ?_⟩
        exact q0 r3 H11 (kH6.trans (s7.trans (s79.trans (s10.trans s11)))) hr3
      · have ce : c = sub (look tb) L := ce
        have zs : (sub (look tb) R).sz ≤ 50000 := zs
        have q0 : ∀ r H', Same H H' → TmIn H' (rep (sub (look tb) R) q t) r → Q r H' := q0
        walk_at "rd"
        refine ⟨v, t, c, pa, q, rfl, ht.tu tu6, po6, hc, fun cv H7 s7 hcv => ?_⟩
        have st7 := s7 _ _ st6
        have hb7 := s7 _ _ hb6
        have tb7 := htb6.tu (tu_same s7)
        have tu7 := tu6.trans (tu_same s7)
        walk_at "rd"
        refine ⟨lv, L, bd, look tb, rfl, hL.tu tu7, TbIn.sb hb7 tb7, by omega, by omega, fun r1 H8 s8 hr1 => ?_⟩
        have st8 := s8 _ _ st7
        have tu8 := tu7.trans (tu_same s8)
        walk_at "rd"
        refine ⟨cv, r1, c, sub (look tb) L, rfl, hcv.tu (tu_same s8), hr1, by omega, by omega, fun b H9 s9 hb9 => ?_⟩
        rw [hb9.mpr ce]
        have s79 : Same H7 H9 := s8.trans s9
        have st9 := s79 _ _ st7
        have hb9' := s79 _ _ hb7
        have tb9 := tb7.tu (tu_same s79)
        have tu9 := tu7.trans (tu_same s79)
        have po9 := (s7.trans s79) _ _ po6
        walk_at "rd"
        refine ⟨rv, R, bd, look tb, rfl, hR.tu tu9, TbIn.sb hb9' tb9, by omega, by omega, fun r2 H10 s10 hr2 => ?_⟩
        have st10 := s10 _ _ st9
        have po10 := s10 _ _ po9
        have tu10 := tu9.trans (tu_same s10)
        walk_at "rd"
        refine ⟨v, r2, t, sub (look tb) R, pa, q, rfl, ht.tu tu10, hr2, po10, (isPos_at q t).mpr ⟨c, hc⟩, by omega, by omega, fun r3 H11 s11 hr3 => ?_⟩
        exact q0 r3 H11 (kH6.trans (s7.trans (s79.trans (s10.trans s11)))) hr3

/-! _law_follow -/
def sp_u_law_follow : Sp := fun vs H Q _ => ∃ (g sg sl : Addr) (v : V) (t t' : Tm) (xs ws : List V), vs = [.ref g, .ref sg, v, .ref sl] ∧ TmIn H t v ∧ H g = some (.lst xs) ∧ H sg = some (.lst []) ∧ xs.length ≤ 1000 ∧ H sl = some (.lst ws) ∧ t.sz ≤ 20000 ∧ t.dep ≤ 58 ∧ FolIn H xs ws t t' ∧ ∀ r H', Same H H' → TmIn H' t' r → Q r H'
theorem ok_u_law_follow (T : Tx K mg A) : FnOk P w K mg base CX0 (64) A.a_u_law_follow A.d_u_law_follow ["given", "stages", "term", "steps"] sp_u_law_follow := by
  have G_u_law_next := ok_u_law_next (P := P) (w := w) (base := base) T
  refine T.F_u_law_follow.ok sc_u_law_follow (fun vs H Q E h => ?_) (fun cdv Ar outer s0 H vs Q E hr h => ?_)
  · obtain ⟨g, sg, sl, v, t, t', xs, ws, rfl, _⟩ := h; rfl
  obtain ⟨g, sg, sl, v, t, t', xs, ws, rfl, ht, hg', hsg, hxl, hsl, zt, dt, hf, q0⟩ := h
  refine ⟨_, (pss_cons (ps_if (pt_not (pt_val (pe_callB (r := rIsi K) call_isi (by rfl) T.n_isinstance boot_isinstance (pa_cons (pv 3) (pa_cons (pe_bltn (v := .ty "list") (by rfl) T.n_list boot_list rfl) pa_nil))))) (pss_one (ps_ret pe_non)) pss_nil)
    (pss_cons (ps_for PassesOwn.never rfl (pi_list (pv 3)) (pg_name (i := 4) sc_u_law_follow.nd rfl (Or.inl rfl)) (pss_cons (ps_set (i := 2) sc_u_law_follow.nd rfl (Or.inl rfl) (pe_call G_u_law_next (hr.mono (by omega)) rfl T.m_u_law_next T.F_u_law_next.kp T.b_u_law_next .nil pass0 (pa_cons (pv 0) (pa_cons (pv 1) (pa_cons (pv 2) (pa_cons (pv 4) pa_nil))))))
    (pss_one (ps_if (pt_cmpR op_isN (pv 2) pe_non (nomark _)) (pss_one (ps_ret pe_non)) pss_nil))))
    (pss_one (ps_ret (pv 2))))), ?_⟩
  walk_at "ri"
  refine ⟨⟨_, SqL.of hsl⟩, for_list (K := K) (a := sl) (xs := ws) (fun i σ' H' => ∃ (v1 : V) (t1 : Tm) (x : Option V), σ' = [some (.ref g), some (.ref sg), some v1, some (.ref sl), x] ∧ TmIn H' t1 v1 ∧ t1.sz ≤ 20000 ∧ t1.dep ≤ 58 ∧ FolIn H xs (ws.drop i) t1 t' ∧ Same H H') ?_ ?_ ?_ ?_⟩
  · exact ⟨v, t, none, rfl, ht, zt, dt, hf, Same.refl _⟩
  · rintro i σ' H' hi ⟨v1, t1, x, rfl, h1, z1, d1, f1, k1⟩
    exact SqL.of (k1 _ _ hsl)
  · rintro i y σ' H' hi ⟨v1, t1, x, rfl, h1, z1, d1, f1, k1⟩
    have hi' := (List.getElem?_eq_some_iff.mp hi)
    have ed : ws.drop i = y :: ws.drop (i + 1) := by
      obtain ⟨hl, rfl⟩ := hi'
      exact List.drop_eq_getElem_cons hl
    rw [ed] at f1
    obtain ⟨a, t2, rfl, n1, z2, d2, f2⟩ := f1
    obtain ⟨src, pa, bd, k, fwd, q, tb, e, lv, rv, L, R, c, g1, g2, g3, g4, g5, ⟨g61, g62, g63, g64⟩, g7, g8, g9, g10, g11, rfl⟩ := n1.same k1
    walk_at "rd"
    refine ⟨g, sg, v1, t1, a, src, pa, bd, k, fwd, q, tb, xs, e, lv, rv, L, R, c, rfl, h1, g1, k1 _ _ hg', k1 _ _ hsg, g2, hxl, g3, g4, g5, z1, d1, g61, g62, g63, g64, g7, g8, g9, g10, g11, fun r H2 s2 hr => ?_⟩
    have nn := tm_not_non hr
    walk_at "rd"
    refine ifD (fun z => absurd z nn) (fun _ => ?_)
    exact ⟨_, _, _, rfl, hr, z2, d2, f2, k1.trans s2⟩
  · rintro σ' H' ⟨v1, t1, x, rfl, h1, z1, d1, f1, k1⟩
    rw [List.drop_length] at f1
    cases (show t1 = t' from f1)
    walk_at "rd"
    exact q0 _ _ k1 h1

/-! _law_tells -/
def sp_u_law_tells : Sp := fun vs H Q _ => ∃ (a b : Bool), vs = [.bl a, .bl b] ∧ Q (.bl (a == b)) H
theorem ok_u_law_tells (T : Tx K mg A) : FnOk P w K mg base CX0 (1) A.a_u_law_tells A.d_u_law_tells ["actual", "due"] sp_u_law_tells := by

  refine T.F_u_law_tells.ok sc_u_law_tells (fun vs H Q E h => ?_) (fun cdv Ar outer s0 H vs Q E hr h => ?_)
  · obtain ⟨a, b, rfl, _⟩ := h; rfl
  obtain ⟨a, b, rfl, q⟩ := h
  refine ⟨_, (pss_cons (ps_if (pt_val (pv 1)) (pss_one (ps_ret (pe_cmpR op_isBl (pv 0) pe_bl (nomark _)))) pss_nil)
    (pss_one (ps_ret (pe_cmpR op_isBl (pv 0) pe_bl (nomark _))))), ?_⟩
  cases a <;> cases b
  · walk_at "rd"
    exact q
  · walk_at "rd"
    exact q
  · walk_at "rd"
    exact q
  · walk_at "rd"
    exact q

/-! law -/
def sp_law (K : PySem.W.Frag) : Sp := fun vs H Q _ => ∃ (a : Addr) (ns : List Int), vs = [.ref a] ∧ SqL K H a (ns.map V.int) ∧ ns.length ≤ 63 ∧ ∀ H', Q (.bl true) H'
theorem ok_law (T : Tx K mg A) (hbm : (base.get? sysModules).isSome = true) : Quiet P w K mg base 90 A.a_law A.d_law ["script"] (sp_law K) := by
  have G_reverse := ok_reverse (P := P) (w := w) (base := base) T
  have G_u_law_chain := ok_u_law_chain (P := P) (w := w) (base := base) T
  have G_u_law_draw := ok_u_law_draw (P := P) (w := w) (base := base) T
  have G_u_law_follow := ok_u_law_follow (P := P) (w := w) (base := base) T
  have G_u_law_operations := ok_u_law_operations (P := P) (w := w) (base := base) T
  have G_u_law_same := ok_u_law_same (P := P) (w := w) (base := base) T
  have G_u_law_state := ok_u_law_state (P := P) (w := w) (base := base) T
  have G_u_law_tells := ok_u_law_tells (P := P) (w := w) (base := base) T
  have G_u_law_term := ok_u_law_term (P := P) (w := w) (base := base) T
  refine quiet_of T.F_law sc_law (fun vs H Q E h => ?_) (fun cdv Ar outer s0 H vs Q E hg hr h => ?_)
  · obtain ⟨a, ns, rfl, _⟩ := h; rfl
  obtain ⟨a, ns, rfl, hS, h63, q⟩ := h
  refine ⟨_, (pss_cons (ps_set (i := 1) sc_law.nd rfl (Or.inl rfl) (pe_call G_u_law_state (hr.mono (by omega)) rfl T.m_u_law_state T.F_u_law_state.kp T.b_u_law_state .nil pass0 (pa_cons (pv 0) pa_nil)))
    (pss_cons (ps_set (i := 2) sc_law.nd rfl (Or.inl rfl) (pe_call G_u_law_operations (hr.mono (by omega)) rfl T.m_u_law_operations T.F_u_law_operations.kp T.b_u_law_operations .nil pass0 (pa_cons (pv 1) pa_nil)))
    (pss_cons (ps_set (i := 3) sc_law.nd rfl (Or.inl rfl) (pe_call G_u_law_term (hr.mono (by omega)) rfl T.m_u_law_term T.F_u_law_term.kp T.b_u_law_term .nil pass0 (pa_cons (pv 1) (pa_cons (pv 2) (pa_cons (pe_call G_u_law_draw (hr.mono (by omega)) rfl T.m_u_law_draw T.F_u_law_draw.kp T.b_u_law_draw .nil pass0 (pa_cons (pv 1) (pa_cons pe_int pa_nil))) (pa_cons pe_int pa_nil))))))
    (pss_cons (ps_asg (pe_call G_u_law_chain (hr.mono (by omega)) rfl T.m_u_law_chain T.F_u_law_chain.kp T.b_u_law_chain .nil pass0 (pa_cons (pv 1) (pa_cons (pv 2) (pa_cons pe_int (pa_cons (pv 3) (pa_cons pe_int (pa_cons (pe_call G_u_law_draw (hr.mono (by omega)) rfl T.m_u_law_draw T.F_u_law_draw.kp T.b_u_law_draw .nil pass0 (pa_cons (pv 1) (pa_cons pe_int pa_nil))) pa_nil))))))) (pg_tup (by rfl) (pgs_cons (pg_name (i := 4) sc_law.nd rfl (Or.inl rfl)) (pgs_cons (pg_name (i := 5) sc_law.nd rfl (Or.inl rfl)) (pgs_cons (pg_name (i := 6) sc_law.nd rfl (Or.inl rfl)) pgs_nil)))))
    (pss_cons (ps_set (i := 7) sc_law.nd rfl (Or.inl rfl) (pe_callB (call_showS hr.units hbm) (by rfl) T.n_repr boot_repr (pa_cons (pv 5) pa_nil)))
    (pss_cons (ps_set (i := 8) sc_law.nd rfl (Or.inl rfl) (pe_call G_reverse (hr.mono (by omega)) rfl T.m_reverse T.F_reverse.kp T.b_reverse .nil pass0 (pa_cons (pv 5) pa_nil)))
    (pss_cons (ps_if (PW.pt (pw_or (pt_not (pt_val (pe_callB (r := rIsi K) call_isi (by rfl) T.n_isinstance boot_isinstance (pa_cons (pv 8) (pa_cons (pe_bltn (v := .ty "list") (by rfl) T.n_list boot_list rfl) pa_nil))))) (pw_or (pt_cmpR op_ne (pe_callB (r := rLenS K) j_len (by rfl) T.n_len PySem.boot_len (pa_cons (pv 8) pa_nil)) (pe_callB (r := rLenS K) j_len (by rfl) T.n_len PySem.boot_len (pa_cons (pv 5) pa_nil)) (nomark _)) (pw_or1 (pt_cmpR op_ne (pe_callB (call_showS hr.units hbm) (by rfl) T.n_repr boot_repr (pa_cons (pv 5) pa_nil)) (pv 7) (nomark _)))))) (pss_one (ps_ret pe_bl)) pss_nil)
    (pss_cons (ps_set (i := 9) sc_law.nd rfl (Or.inl rfl) (pe_call G_u_law_follow (hr.mono (by omega)) rfl T.m_u_law_follow T.F_u_law_follow.kp T.b_u_law_follow .nil pass0 (pa_cons (pv 4) (pa_cons (pe_lst pa_nil) (pa_cons (pe_ix (r := rIxL K) ix_list (pv 6) (pe_op op_sub (pe_callB (r := rLenS K) j_len (by rfl) T.n_len PySem.boot_len (pa_cons (pv 6) pa_nil)) pe_int) (fun _ _ => rfl)) (pa_cons (pv 8) pa_nil))))))
    (pss_cons (ps_if (PW.pt (pw_or (pt_cmpR op_isN (pv 9) pe_non (nomark _)) (pw_or1 (pt_not (pt_val (pe_call G_u_law_same (hr.mono (by omega)) rfl T.m_u_law_same T.F_u_law_same.kp T.b_u_law_same .nil pass0 (pa_cons (pv 9) (pa_cons (pv 3) pa_nil)))))))) (pss_one (ps_ret pe_bl)) pss_nil)
    (pss_cons (ps_for PassesOwn.never rfl (pi_range1 rfl T.n_range (pa_cons (pe_callB (r := rLenS K) j_len (by rfl) T.n_len PySem.boot_len (pa_cons (pv 5) pa_nil)) pa_nil)) (pg_name (i := 10) sc_law.nd rfl (Or.inl rfl)) (pss_one (ps_if (PW.pt (pw_or (pt_cmpR (r := rNeD K) (op_neD hr.units) (pe_ix (r := rIxT K) ix_tup (pe_ix (r := rIxL K) ix_list (pv 8) (pv 10) (fun _ _ => rfl)) pe_int (fun _ _ => rfl)) (pe_ix (r := rIxT K) ix_tup (pe_ix (r := rIxL K) ix_list (pv 5) (pe_op op_sub (pe_op op_sub (pe_callB (r := rLenS K) j_len (by rfl) T.n_len PySem.boot_len (pa_cons (pv 5) pa_nil)) pe_int) (pv 10)) (fun _ _ => rfl)) pe_int (fun _ _ => rfl)) (nomark _)) (pw_or1 (pt_not (pt_val (pe_call G_u_law_tells (hr.mono (by omega)) rfl T.m_u_law_tells T.F_u_law_tells.kp T.b_u_law_tells .nil pass0 (pa_cons (pe_ix (r := rIxT K) ix_tup (pe_ix (r := rIxL K) ix_list (pv 8) (pv 10) (fun _ _ => rfl)) pe_int (fun _ _ => rfl)) (pa_cons (pe_not (pe_ix (r := rIxT K) ix_tup (pe_ix (r := rIxL K) ix_list (pv 5) (pe_op op_sub (pe_op op_sub (pe_callB (r := rLenS K) j_len (by rfl) T.n_len PySem.boot_len (pa_cons (pv 5) pa_nil)) pe_int) (pv 10)) (fun _ _ => rfl)) pe_int (fun _ _ => rfl))) pa_nil)))))))) (pss_one (ps_ret pe_bl)) pss_nil)))
    (pss_cons (ps_set (i := 11) sc_law.nd rfl (Or.inl rfl) (pe_callB (call_showS hr.units hbm) (by rfl) T.n_repr boot_repr (pa_cons (pv 8) pa_nil)))
    (pss_cons (ps_for PassesOwn.never rfl (pi_list (pv 8)) (pg_name (i := 12) sc_law.nd rfl (Or.inl rfl)) (pss_one (ps_dput (hu_of hr) (pe_ix (r := rIxT K) ix_tup (pv 12) pe_int (fun _ _ => rfl)) pe_int (pe_tup (pa_cons (pe_ix (r := rIxT K) ix_tup (pe_ix (r := rIxL K) ix_list (pv 2) pe_int (fun _ _ => rfl)) pe_int (fun _ _ => rfl)) pa_nil)) rfl)))
    (pss_one (ps_ret (pe_and (pe_cmpR op_eq (pe_callB (call_showS hr.units hbm) (by rfl) T.n_repr boot_repr (pa_cons (pv 5) pa_nil)) (pv 7) (nomark _)) (pe_one (pe_cmpR op_eq (pe_callB (call_showS hr.units hbm) (by rfl) T.n_repr boot_repr (pa_cons (pe_call G_reverse (hr.mono (by omega)) rfl T.m_reverse T.F_reverse.kp T.b_reverse .nil pass0 (pa_cons (pv 5) pa_nil)) pa_nil)) (pv 11) (nomark _)))))))))))))))))), ?_⟩
  walk_at "rd"
  refine ⟨a, ns, rfl, hS, h63, fun s l H1 s1 n1 _ st1 => ?_⟩
  walk_at "rd"
  refine ⟨s, l, rfl, st1, fun o fs H2 b2 st2 no op2 => ?_⟩
  have hn := op2.1
  walk_at "rd"
  refine ⟨s, l, 9, rfl, st2, by decide, by decide, fun B H3 B0 B1 b3 st3 => ?_⟩
  have op3 := op2.but st2 b3
  refine ⟨s, l, o, fs, B, 3, by omega, rfl, st3, op3, B0, by omega, fun v t H4 b4 st4 ht wt dt zt => ?_⟩
  have op4 := op3.but st3 b4
  have zt : t.sz ≤ 40 := by have e : (3 : Nat) ^ (3 + 1) = 81 := rfl; omega
  have dt : t.dep ≤ 4 := dt
  have wt : t.wf fs 9 := wt.mono (by omega)
  walk_at "rd"
  refine ⟨s, l, 7, rfl, st4, by decide, by decide, fun m H5 m0 m1 b5 st5 => ?_⟩
  have op5 := op4.but st4 b5
  have ht5 := ht.tu (st4.tu b5)
  obtain ⟨m, rfl⟩ := Int.eq_ofNat_of_zero_le m0
  refine ⟨s, l, o, fs, 9, v, t, 0, m, rfl, st5, op5, by decide, by decide, ht5, wt, by omega, by omega, by omega, fun p g sp tl gs ss tvs xs H6 b6 st6 hp ng nsp ntl hg6 hp6 ht6 xl eq6 sts6 tm6 ch ix => ?_⟩
  refine ⟨p, _, rfl, SqT.of hp, rfl, _, _, rfl, _, _, rfl, _, _, rfl, rfl, ?_⟩
  have hv6 := ht5.tu (st5.tu b6)
  have op6 := op5.but st5 b6
  have okS : ∀ x ∈ xs.map (·.st), StqOk fs 9 x := fun x hx => by
    obtain ⟨y, hy, rfl⟩ := List.mem_map.mp hx
    refine chn_ok ch wt (by omega) (by omega) (fun z hz => ?_) y hy
    obtain ⟨i, hi⟩ := List.mem_iff_getElem?.mp hz
    obtain ⟨h1, h2⟩ := ix i z hi
    have := (List.getElem?_eq_some_iff.mp hi).1
    exact ⟨h1, by omega⟩
  have xm : (xs.map (·.st)).length ≤ 18 := by rw [List.length_map]; omega
  have sl := sts6.length
  have ssl : ss.length ≤ 18 := by omega
  walk_at "rd"
  refine ⟨hg, sp, ss, xs.map (·.st), fs, 9, rfl, hp6, sts6, hn, by decide, okS, xm, ?_⟩
  walk_at "rd"
  refine ⟨sp, ss, xs.map (·.st), rfl, hp6, sts6, by omega, fun ac rs H7 s7 nac hac hrs fr => ?_⟩
  have hp7 := s7 _ _ hp6
  have sts7 := sts6.td (td_same s7)
  have rl := hrs.length
  rw [List.length_map, List.length_reverse] at rl
  walk_at "ri"
  refine ifNe (fun e => absurd (show ((rs.length : Nat) : Int) = ((ss.length : Nat) : Int) by omega) e) (fun _ => ?_)
  walk_at "rd"
  refine ⟨hg, sp, ss, xs.map (·.st), fs, 9, rfl, hp7, sts7, hn, by decide, okS, xm, ?_⟩
  walk_at "rd"
  refine ifNeS (fun e => absurd rfl e) (fun _ => ?_)
  walk_at "rd"
  refine ⟨show 0 ≤ sizeLine by decide, ?_⟩
  first | intro sg n8 | refine fun sg n8 => ?_
  generalize ehn : upd H7 sg _ = H8
  have s8 := J.al_same n8 ehn
  have h8 := J.al_at ehn
  clear ehn
  have k68 : Same H6 H8 := s7.trans s8
  have tmL := tm6.length
  rw [List.length_cons, List.length_map] at tmL
  obtain ⟨lv, glv, hlv⟩ := tm6.get' (lastT_get xs t)
  have ht8 := k68 _ _ ht6
  walk_at "rd"
  refine ⟨tl, _, _, lv, rfl, rfl, SqL.of ht8, at_get (by rw [tmL]; omega) (by rw [tmL, ← glv]; congr 1; omega), ?_⟩
  have cl := Chn.last ch wt
  have eqL := eq6.length
  walk_at "rd"
  refine ⟨g, sg, ac, lv, lastT t xs, t, gs, rs, rfl, hlv.tu (tu_same k68), k68 _ _ hg6, h8, by omega, s8 _ _ hac, by omega, by omega, ?_, fun r H9 s9 hr9 => ?_⟩
  · exact fol_back m xl (ch) wt (by omega) (by omega) (fun i x gx => by
      obtain ⟨w, h1, h2⟩ := eq6.get' gx
      exact ⟨w, h1, h2.tu (tu_same k68)⟩) (fun i x gx => by
      have := ix i x gx
      rw [Nat.zero_add] at this
      exact this) rs (hrs.td (td_same s8))
  have nn := tm_not_non hr9
  have k69 : Same H6 H9 := k68.trans s9
  walk_at "rd"
  refine ifD (fun z => absurd z nn) (fun _ => ?_)
  walk_at "rd"
  refine ⟨r, v, t, t, rfl, hr9, hv6.tu (tu_same k69), by omega, by omega, fun b H10 s10 hb => ?_⟩
  rw [hb.mpr rfl]
  have k610 : Same H6 H10 := k69.trans s10
  have k710 : Same H7 H10 := s8.trans (s9.trans s10)
  have hac10 := k710 _ _ hac
  have hp10 := k610 _ _ hp6
  have hrs10 := hrs.td (td_same k710)
  have sts10 := sts6.td (td_same k610)
  walk_at "rd"
  refine ⟨by omega, by omega, for_range (lo := 0) (n := ss.length) (fun i σ' H' => ∃ x, σ' = [some (.ref a), some (.ref s), some (.ref o), some v, some (.ref g), some (.ref sp), some (.ref tl), some (.str (stsD (xs.map (·.st))).shown), some (.ref ac), some r, x, none, none] ∧ Same H10 H') ?_ ?_ ?_⟩
  · exact ⟨none, rfl, Same.refl _⟩
  · rintro i σ' H' hi ⟨x, rfl, k⟩
    have td := td_same k
    have hi2 : i < rs.length := by omega
    have gw := List.getElem?_eq_getElem hi2
    generalize rs[i] = w at gw
    have hj2 : ss.length - 1 - i < ss.length := by omega
    have gu := List.getElem?_eq_getElem hj2
    generalize ss[ss.length - 1 - i] = u at gu
    obtain ⟨x', gx', hx'⟩ := (hrs10.td td).get gw
    obtain ⟨y', gy', hy'⟩ := (sts10.td td).get gu
    have exy : x' = y'.rev := by
      rw [List.getElem?_map, List.getElem?_reverse (by rw [← sl]; exact hi)] at gx'
      rw [show (xs.map (·.st)).length - 1 - i = ss.length - 1 - i by rw [← sl], gy'] at gx'
      exact (Option.some.inj gx').symm
    subst exy
    obtain ⟨a1, src1, pa1, bd1, kvs1, rfl, c1, c2, _⟩ := hx'
    obtain ⟨a2, src2, pa2, bd2, kvs2, rfl, d1, d2, _⟩ := hy'
    have hac' := k _ _ hac10
    have hp' := k _ _ hp10
    have e0 : (0 : Int) + (i : Int) = ((i : Nat) : Int) := by omega
    walk_at "rd"
    refine ⟨ac, _, _, _, rfl, rfl, SqL.of hac', by rw [e0]; exact atI_nat gw, ?_⟩
    walk_at "rd"
    have e1 : ((ss.length : Nat) : Int) - 1 - (0 + (i : Int)) = ((ss.length - 1 - i : Nat) : Int) := by omega
    refine ⟨sp, _, _, _, rfl, rfl, SqL.of hp', (show atI ss (((ss.length : Nat) : Int) - 1 - (0 + (i : Int))) = some (.ref a2) by rw [e1]; exact atI_nat gu), ?_⟩
    walk_at "rd"
    obtain ⟨z, gz, ez⟩ : ∃ z, xs[ss.length - 1 - i]? = some z ∧ z.st = y' := by
      rw [List.getElem?_map] at gy'
      cases e : xs[ss.length - 1 - i]? with
      | none => rw [e] at gy'; cases gy'
      | some z => rw [e] at gy'; exact ⟨z, rfl, Option.some.inj gy'⟩
    have hkd : y'.kd = ("given" : Str) := by rw [← ez]; exact (ix _ _ gz).1
    have c2 : H' src1 = some (.tup [.str y'.kd, .int y'.k]) := c2
    rw [hkd] at c2 d2
    have c1 : H' a1 = some (.tup [.ref src1, .bl (!y'.fwd), .ref pa1, .ref bd1]) := c1
    obtain ⟨sl0, sd⟩ := src_lay _ given_ok y'.k
    refine ⟨_, _, .tup (SqT.of c2) (.cons (.str _) (.cons (.int _) .nil)), .tup (SqT.of d2) (.cons (.str _) (.cons (.int _) .nil)), sd, sd, ?_⟩
    rw [show PyData.eqv (.tuple [.str ("given" : Str), .int y'.k]) (.tuple [.str ("given" : Str), .int y'.k]) = true from SeqAt.eqv_refl _ sl0]
    walk_at "rd"
    refine ⟨ac, _, _, _, rfl, rfl, SqL.of hac', by rw [e0]; exact atI_nat gw, ?_⟩
    walk_at "rd"
    refine ⟨sp, _, _, _, rfl, rfl, SqL.of hp', (show atI ss (((ss.length : Nat) : Int) - 1 - (0 + (i : Int))) = some (.ref a2) by rw [e1]; exact atI_nat gu), ?_⟩
    walk_at "rd"
    refine ⟨!y'.fwd, !y'.fwd, rfl, ?_⟩
    rw [show ((!y'.fwd) == (!y'.fwd)) = true from beq_self_eq_true _]
    walk_at "rd"
    exact k
  · rintro σ' H11 ⟨x, rfl, k11⟩
    have k611 : Same H6 H11 := k610.trans k11
    have k711 : Same H7 H11 := k710.trans k11
    have hac11 := k11 _ _ hac10
    have hrs11 := hrs10.td (td_same k11)
    have okR : ∀ x ∈ (xs.map (·.st)).reverse.map Stq.rev, StqOk fs 9 x := fun x hx => by
      obtain ⟨y, hy, rfl⟩ := List.mem_map.mp hx
      exact (okS y (List.mem_reverse.mp hy)).rev
    have xr : ((xs.map (·.st)).reverse.map Stq.rev).length ≤ 18 := by rw [List.length_map, List.length_reverse]; exact xm
    walk_at "rd"
    refine ⟨hg, ac, rs, _, fs, 9, rfl, hac11, hrs11, hn, by decide, okR, xr, ?_⟩
    walk_at "rd"
    refine ⟨⟨_, SqL.of hac11⟩, for_list (K := K) (a := ac) (xs := rs) (fun i σ' H' => ∃ y, σ' = [some (.ref a), some (.ref s), some (.ref o), some v, some (.ref g), some (.ref sp), some (.ref tl), some (.str (stsD (xs.map (·.st))).shown), some (.ref ac), some r, x, some (.str (stsD ((xs.map (·.st)).reverse.map Stq.rev)).shown), y] ∧ Same H6 H' ∧ Tu H11 H' ∧ H' ac = some (.lst rs) ∧ (∀ c kvs, H11 c = some (.dK kvs) → ∃ kvs', H' c = some (.dK kvs') ∧ kvs'.length ≤ kvs.length + i)) ?_ ?_ ?_ ?_⟩
    · exact ⟨none, rfl, k611, Tu.refl _, hac11, fun c kvs h => ⟨kvs, h, Nat.le_refl _⟩⟩
    · rintro i σ' H' hi ⟨y, rfl, c1, c2, c3, c4⟩
      exact SqL.of c3
    · rintro i w σ' H' hi ⟨y, rfl, c1, c2, c3, c4⟩
      obtain ⟨x', gx', hx'⟩ := hrs11.get hi
      obtain ⟨a1, src1, pa1, bd1, kvs1, rfl, d1, d2, d3, d4, d5⟩ := hx'
      have hi2 := (List.getElem?_eq_some_iff.mp hi).1
      have fb : H6 bd1 = none := by
        obtain ⟨a', src', pa', bd', b', e, h, f⟩ := fr _ (List.mem_of_getElem? hi)
        cases e
        have := k711 _ _ h
        rw [d1] at this
        cases this
        exact f
      have d4' := d4
      have l5 := d5.length
      have f5 := (okR x' (List.mem_of_getElem? gx')).tl
      obtain ⟨kvs', e4, l4⟩ := c4 bd1 kvs1 d4
      obtain ⟨ys, ao, f, ho, hl, hx, hf, ha⟩ := (op6.same c1).get (k := 0) (by rcases op6.2.1 with e | e <;> omega)
      have d1' := c2 _ _ d1
      walk_at "rd"
      refine ⟨o, _, _, _, rfl, rfl, SqL.of ho, atI_nat (j := 0) hx, ?_⟩
      walk_at "rd"
      refine ⟨show 1 ≤ sizeLine by decide, ?_⟩
      first | intro pp n12 | refine fun pp n12 => ?_
      generalize ehn : upd H' pp _ = H12
      have s12 := J.al_same n12 ehn
      have h12 := J.al_at ehn
      clear ehn
      have d1'' := s12 _ _ d1'
      walk_at "rd"
      refine ⟨bd1, _, rfl, DPut.k (k := Sum.inl 17) (s12 _ _ e4) (Nat.lt_of_le_of_lt (show kvs'.length ≤ 100 by omega) (by decide)), ?_⟩
      generalize ehn : upd H12 bd1 _ = H13
      have b13 := J.al_but ehn
      have h13 := J.al_at ehn
      clear ehn
      refine ⟨_, rfl, (fun c ob e => b13 _ _ (s12 _ _ (c1 _ _ e)) fun z => by rw [z, fb] at e; cases e), (fun c zs e => b13 _ _ (s12 _ _ (c2 _ _ e)) fun z => by rw [z, d4'] at e; cases e), (b13 _ _ (s12 _ _ c3) fun z => by rw [z, e4] at c3; cases c3), fun c ks e => ?_⟩
      by_cases z : c = bd1
      · rw [z, d4] at e; cases e
        exact ⟨_, z ▸ h13, Nat.le_trans (length_putK _ _ _) (by omega)⟩
      · obtain ⟨ks', h, hl⟩ := c4 c ks e
        exact ⟨ks', b13 _ _ (s12 _ _ h) z, by omega⟩
    · rintro σ' H12 ⟨y, rfl, c1, c2, c3, c4⟩
      have hp12 := c1 _ _ hp6
      have sts12 := sts6.td (td_same c1)
      walk_at "rd"
      refine ⟨hg, sp, ss, xs.map (·.st), fs, 9, rfl, hp12, sts12, hn, by decide, okS, xm, ?_⟩
      walk_at "rd"
      refine ifD (fun _ => ?_) (fun z => absurd rfl z)
      walk_at "rd"
      refine ⟨sp, ss, xs.map (·.st), rfl, hp12, sts12, by omega, fun ac2 rs2 H13 s13 nac2 hac2 hrs2 fr2 => ?_⟩
      refine ⟨hg, ac2, rs2, _, fs, 9, rfl, hac2, hrs2, hn, by decide, okR, xr, ?_⟩
      walk_at "rd"
      rw [decide_eq_true rfl]
      exact q _

end
theorem all_mk {l : PySem.W.OpenLaw} {w : World} {K : PySem.W.Frag} {h : Heap} {mg : Str → Option Value} {fa : Addr} (X : K.In h) (G : h.Ns mainGlobals mg) (hfa : mg "law" = some (.ref fa))
    {f0 f1 f2 f3 f4 f5 f6 f7 f8 f9 f10 f11 f12 f13 f14 f15 f16 f17 f18 f19 f20 f21 f22 f23 f24 f25 : Addr} {od0 an0 od1 an1 od2 an2 od3 an3 od4 an4 od5 an5 od6 an6 od7 an7 od8 an8 od9 an9 od10 an10 od11 an11 od12 an12 od13 an13 od14 an14 od15 an15 od16 an16 od17 an17 od18 an18 od19 an19 od20 an20 od21 an21 od22 an22 od23 an23 od24 an24 od25 an25 : Option Addr} {sl0 sl1 sl2 sl3 sl4 sl5 sl6 sl7 sl8 sl9 sl10 sl11 sl12 sl13 sl14 sl15 sl16 sl17 sl18 sl19 sl20 sl21 sl22 sl23 sl24 sl25 : Array (Option Value)} {oc0 kV0 dc0 pm0 cd0 ct0 oc1 kV1 dc1 pm1 cd1 ct1 oc2 kV2 dc2 pm2 cd2 ct2 oc3 kV3 dc3 pm3 cd3 ct3 oc4 kV4 dc4 pm4 cd4 ct4 oc5 kV5 dc5 pm5 cd5 ct5 oc6 kV6 dc6 pm6 cd6 ct6 oc7 kV7 dc7 pm7 cd7 ct7 oc8 kV8 dc8 pm8 cd8 ct8 oc9 kV9 dc9 pm9 cd9 ct9 oc10 kV10 dc10 pm10 cd10 ct10 oc11 kV11 dc11 pm11 cd11 ct11 oc12 kV12 dc12 pm12 cd12 ct12 oc13 kV13 dc13 pm13 cd13 ct13 oc14 kV14 dc14 pm14 cd14 ct14 oc15 kV15 dc15 pm15 cd15 ct15 oc16 kV16 dc16 pm16 cd16 ct16 oc17 kV17 dc17 pm17 cd17 ct17 oc18 kV18 dc18 pm18 cd18 ct18 oc19 kV19 dc19 pm19 cd19 ct19 oc20 kV20 dc20 pm20 cd20 ct20 oc21 kV21 dc21 pm21 cd21 ct21 oc22 kV22 dc22 pm22 cd22 ct22 oc23 kV23 dc23 pm23 cd23 ct23 oc24 kV24 dc24 pm24 cd24 ct24 oc25 kV25 dc25 pm25 cd25 ct25 : Value}
    (a0 : PySem.W.nsIn K mainGlobals "_law_state" = some (some (.ref f0))) (l0 : K.lookup f0 = some ⟨oc0, od0, .func (PySem.W.fnOf "_law_state" "_law_state" (defArgs s_u_law_state) (defBody s_u_law_state) (defScope s_u_law_state) .none kV0 dc0 pm0 an0 cd0 ct0), sl0⟩) (e0 : PySem.W.codeIn K cd0 "_law_state" = true) (k0 : PySem.W.keepIn K (.ref f0) = true)
    (a1 : PySem.W.nsIn K mainGlobals "_law_mix" = some (some (.ref f1))) (l1 : K.lookup f1 = some ⟨oc1, od1, .func (PySem.W.fnOf "_law_mix" "_law_mix" (defArgs s_u_law_mix) (defBody s_u_law_mix) (defScope s_u_law_mix) .none kV1 dc1 pm1 an1 cd1 ct1), sl1⟩) (e1 : PySem.W.codeIn K cd1 "_law_mix" = true) (k1 : PySem.W.keepIn K (.ref f1) = true)
    (a2 : PySem.W.nsIn K mainGlobals "_law_number" = some (some (.ref f2))) (l2 : K.lookup f2 = some ⟨oc2, od2, .func (PySem.W.fnOf "_law_number" "_law_number" (defArgs s_u_law_number) (defBody s_u_law_number) (defScope s_u_law_number) .none kV2 dc2 pm2 an2 cd2 ct2), sl2⟩) (e2 : PySem.W.codeIn K cd2 "_law_number" = true) (k2 : PySem.W.keepIn K (.ref f2) = true)
    (a3 : PySem.W.nsIn K mainGlobals "_law_draw" = some (some (.ref f3))) (l3 : K.lookup f3 = some ⟨oc3, od3, .func (PySem.W.fnOf "_law_draw" "_law_draw" (defArgs s_u_law_draw) (defBody s_u_law_draw) (defScope s_u_law_draw) .none kV3 dc3 pm3 an3 cd3 ct3), sl3⟩) (e3 : PySem.W.codeIn K cd3 "_law_draw" = true) (k3 : PySem.W.keepIn K (.ref f3) = true)
    (a4 : PySem.W.nsIn K mainGlobals "_law_word" = some (some (.ref f4))) (l4 : K.lookup f4 = some ⟨oc4, od4, .func (PySem.W.fnOf "_law_word" "_law_word" (defArgs s_u_law_word) (defBody s_u_law_word) (defScope s_u_law_word) .none kV4 dc4 pm4 an4 cd4 ct4), sl4⟩) (e4 : PySem.W.codeIn K cd4 "_law_word" = true) (k4 : PySem.W.keepIn K (.ref f4) = true)
    (a5 : PySem.W.nsIn K mainGlobals "_law_names" = some (some (.ref f5))) (l5 : K.lookup f5 = some ⟨oc5, od5, .func (PySem.W.fnOf "_law_names" "_law_names" (defArgs s_u_law_names) (defBody s_u_law_names) (defScope s_u_law_names) .none kV5 dc5 pm5 an5 cd5 ct5), sl5⟩) (e5 : PySem.W.codeIn K cd5 "_law_names" = true) (k5 : PySem.W.keepIn K (.ref f5) = true)
    (a6 : PySem.W.nsIn K mainGlobals "_law_operations" = some (some (.ref f6))) (l6 : K.lookup f6 = some ⟨oc6, od6, .func (PySem.W.fnOf "_law_operations" "_law_operations" (defArgs s_u_law_operations) (defBody s_u_law_operations) (defScope s_u_law_operations) .none kV6 dc6 pm6 an6 cd6 ct6), sl6⟩) (e6 : PySem.W.codeIn K cd6 "_law_operations" = true) (k6 : PySem.W.keepIn K (.ref f6) = true)
    (a7 : PySem.W.nsIn K mainGlobals "_law_leaf" = some (some (.ref f7))) (l7 : K.lookup f7 = some ⟨oc7, od7, .func (PySem.W.fnOf "_law_leaf" "_law_leaf" (defArgs s_u_law_leaf) (defBody s_u_law_leaf) (defScope s_u_law_leaf) .none kV7 dc7 pm7 an7 cd7 ct7), sl7⟩) (e7 : PySem.W.codeIn K cd7 "_law_leaf" = true) (k7 : PySem.W.keepIn K (.ref f7) = true)
    (a8 : PySem.W.nsIn K mainGlobals "_law_term" = some (some (.ref f8))) (l8 : K.lookup f8 = some ⟨oc8, od8, .func (PySem.W.fnOf "_law_term" "_law_term" (defArgs s_u_law_term) (defBody s_u_law_term) (defScope s_u_law_term) .none kV8 dc8 pm8 an8 cd8 ct8), sl8⟩) (e8 : PySem.W.codeIn K cd8 "_law_term" = true) (k8 : PySem.W.keepIn K (.ref f8) = true)
    (a9 : PySem.W.nsIn K mainGlobals "_law_positions" = some (some (.ref f9))) (l9 : K.lookup f9 = some ⟨oc9, od9, .func (PySem.W.fnOf "_law_positions" "_law_positions" (defArgs s_u_law_positions) (defBody s_u_law_positions) (defScope s_u_law_positions) .none kV9 dc9 pm9 an9 cd9 ct9), sl9⟩) (e9 : PySem.W.codeIn K cd9 "_law_positions" = true) (k9 : PySem.W.keepIn K (.ref f9) = true)
    (a10 : PySem.W.nsIn K mainGlobals "_law_subterm" = some (some (.ref f10))) (l10 : K.lookup f10 = some ⟨oc10, od10, .func (PySem.W.fnOf "_law_subterm" "_law_subterm" (defArgs s_u_law_subterm) (defBody s_u_law_subterm) (defScope s_u_law_subterm) .none kV10 dc10 pm10 an10 cd10 ct10), sl10⟩) (e10 : PySem.W.codeIn K cd10 "_law_subterm" = true) (k10 : PySem.W.keepIn K (.ref f10) = true)
    (a11 : PySem.W.nsIn K mainGlobals "_law_replace" = some (some (.ref f11))) (l11 : K.lookup f11 = some ⟨oc11, od11, .func (PySem.W.fnOf "_law_replace" "_law_replace" (defArgs s_u_law_replace) (defBody s_u_law_replace) (defScope s_u_law_replace) .none kV11 dc11 pm11 an11 cd11 ct11), sl11⟩) (e11 : PySem.W.codeIn K cd11 "_law_replace" = true) (k11 : PySem.W.keepIn K (.ref f11) = true)
    (a12 : PySem.W.nsIn K mainGlobals "_law_variables" = some (some (.ref f12))) (l12 : K.lookup f12 = some ⟨oc12, od12, .func (PySem.W.fnOf "_law_variables" "_law_variables" (defArgs s_u_law_variables) (defBody s_u_law_variables) (defScope s_u_law_variables) .none kV12 dc12 pm12 an12 cd12 ct12), sl12⟩) (e12 : PySem.W.codeIn K cd12 "_law_variables" = true) (k12 : PySem.W.keepIn K (.ref f12) = true)
    (a13 : PySem.W.nsIn K mainGlobals "_law_pattern" = some (some (.ref f13))) (l13 : K.lookup f13 = some ⟨oc13, od13, .func (PySem.W.fnOf "_law_pattern" "_law_pattern" (defArgs s_u_law_pattern) (defBody s_u_law_pattern) (defScope s_u_law_pattern) .none kV13 dc13 pm13 an13 cd13 ct13), sl13⟩) (e13 : PySem.W.codeIn K cd13 "_law_pattern" = true) (k13 : PySem.W.keepIn K (.ref f13) = true)
    (a14 : PySem.W.nsIn K mainGlobals "_law_substitute" = some (some (.ref f14))) (l14 : K.lookup f14 = some ⟨oc14, od14, .func (PySem.W.fnOf "_law_substitute" "_law_substitute" (defArgs s_u_law_substitute) (defBody s_u_law_substitute) (defScope s_u_law_substitute) .none kV14 dc14 pm14 an14 cd14 ct14), sl14⟩) (e14 : PySem.W.codeIn K cd14 "_law_substitute" = true) (k14 : PySem.W.keepIn K (.ref f14) = true)
    (a15 : PySem.W.nsIn K mainGlobals "_law_step" = some (some (.ref f15))) (l15 : K.lookup f15 = some ⟨oc15, od15, .func (PySem.W.fnOf "_law_step" "_law_step" (defArgs s_u_law_step) (defBody s_u_law_step) (defScope s_u_law_step) .none kV15 dc15 pm15 an15 cd15 ct15), sl15⟩) (e15 : PySem.W.codeIn K cd15 "_law_step" = true) (k15 : PySem.W.keepIn K (.ref f15) = true)
    (a16 : PySem.W.nsIn K mainGlobals "_law_chain" = some (some (.ref f16))) (l16 : K.lookup f16 = some ⟨oc16, od16, .func (PySem.W.fnOf "_law_chain" "_law_chain" (defArgs s_u_law_chain) (defBody s_u_law_chain) (defScope s_u_law_chain) .none kV16 dc16 pm16 an16 cd16 ct16), sl16⟩) (e16 : PySem.W.codeIn K cd16 "_law_chain" = true) (k16 : PySem.W.keepIn K (.ref f16) = true)
    (a17 : PySem.W.nsIn K mainGlobals "reverse" = some (some (.ref f17))) (l17 : K.lookup f17 = some ⟨oc17, od17, .func (PySem.W.fnOf "reverse" "reverse" (defArgs s_reverse) (defBody s_reverse) (defScope s_reverse) .none kV17 dc17 pm17 an17 cd17 ct17), sl17⟩) (e17 : PySem.W.codeIn K cd17 "reverse" = true) (k17 : PySem.W.keepIn K (.ref f17) = true)
    (a18 : PySem.W.nsIn K mainGlobals "_law_equation" = some (some (.ref f18))) (l18 : K.lookup f18 = some ⟨oc18, od18, .func (PySem.W.fnOf "_law_equation" "_law_equation" (defArgs s_u_law_equation) (defBody s_u_law_equation) (defScope s_u_law_equation) .none kV18 dc18 pm18 an18 cd18 ct18), sl18⟩) (e18 : PySem.W.codeIn K cd18 "_law_equation" = true) (k18 : PySem.W.keepIn K (.ref f18) = true)
    (a19 : PySem.W.nsIn K mainGlobals "_law_is_step" = some (some (.ref f19))) (l19 : K.lookup f19 = some ⟨oc19, od19, .func (PySem.W.fnOf "_law_is_step" "_law_is_step" (defArgs s_u_law_is_step) (defBody s_u_law_is_step) (defScope s_u_law_is_step) .none kV19 dc19 pm19 an19 cd19 ct19), sl19⟩) (e19 : PySem.W.codeIn K cd19 "_law_is_step" = true) (k19 : PySem.W.keepIn K (.ref f19) = true)
    (a20 : PySem.W.nsIn K mainGlobals "_law_same" = some (some (.ref f20))) (l20 : K.lookup f20 = some ⟨oc20, od20, .func (PySem.W.fnOf "_law_same" "_law_same" (defArgs s_u_law_same) (defBody s_u_law_same) (defScope s_u_law_same) .none kV20 dc20 pm20 an20 cd20 ct20), sl20⟩) (e20 : PySem.W.codeIn K cd20 "_law_same" = true) (k20 : PySem.W.keepIn K (.ref f20) = true)
    (a21 : PySem.W.nsIn K mainGlobals "_law_has_position" = some (some (.ref f21))) (l21 : K.lookup f21 = some ⟨oc21, od21, .func (PySem.W.fnOf "_law_has_position" "_law_has_position" (defArgs s_u_law_has_position) (defBody s_u_law_has_position) (defScope s_u_law_has_position) .none kV21 dc21 pm21 an21 cd21 ct21), sl21⟩) (e21 : PySem.W.codeIn K cd21 "_law_has_position" = true) (k21 : PySem.W.keepIn K (.ref f21) = true)
    (a22 : PySem.W.nsIn K mainGlobals "_law_next" = some (some (.ref f22))) (l22 : K.lookup f22 = some ⟨oc22, od22, .func (PySem.W.fnOf "_law_next" "_law_next" (defArgs s_u_law_next) (defBody s_u_law_next) (defScope s_u_law_next) .none kV22 dc22 pm22 an22 cd22 ct22), sl22⟩) (e22 : PySem.W.codeIn K cd22 "_law_next" = true) (k22 : PySem.W.keepIn K (.ref f22) = true)
    (a23 : PySem.W.nsIn K mainGlobals "_law_follow" = some (some (.ref f23))) (l23 : K.lookup f23 = some ⟨oc23, od23, .func (PySem.W.fnOf "_law_follow" "_law_follow" (defArgs s_u_law_follow) (defBody s_u_law_follow) (defScope s_u_law_follow) .none kV23 dc23 pm23 an23 cd23 ct23), sl23⟩) (e23 : PySem.W.codeIn K cd23 "_law_follow" = true) (k23 : PySem.W.keepIn K (.ref f23) = true)
    (a24 : PySem.W.nsIn K mainGlobals "_law_tells" = some (some (.ref f24))) (l24 : K.lookup f24 = some ⟨oc24, od24, .func (PySem.W.fnOf "_law_tells" "_law_tells" (defArgs s_u_law_tells) (defBody s_u_law_tells) (defScope s_u_law_tells) .none kV24 dc24 pm24 an24 cd24 ct24), sl24⟩) (e24 : PySem.W.codeIn K cd24 "_law_tells" = true) (k24 : PySem.W.keepIn K (.ref f24) = true)
    (a25 : PySem.W.nsIn K mainGlobals "law" = some (some (.ref f25))) (l25 : K.lookup f25 = some ⟨oc25, od25, .func (PySem.W.fnOf "law" "law" (defArgs s_law) (defBody s_law) (defScope s_law) .none kV25 dc25 pm25 an25 cd25 ct25), sl25⟩) (e25 : PySem.W.codeIn K cd25 "law" = true) (k25 : PySem.W.keepIn K (.ref f25) = true)
    (z_bool : PySem.W.nsIn K mainGlobals "bool" = some none)
    (z_dict : PySem.W.nsIn K mainGlobals "dict" = some none)
    (z_int : PySem.W.nsIn K mainGlobals "int" = some none)
    (z_isinstance : PySem.W.nsIn K mainGlobals "isinstance" = some none)
    (z_len : PySem.W.nsIn K mainGlobals "len" = some none)
    (z_list : PySem.W.nsIn K mainGlobals "list" = some none)
    (z_range : PySem.W.nsIn K mainGlobals "range" = some none)
    (z_repr : PySem.W.nsIn K mainGlobals "repr" = some none)
    (z_str : PySem.W.nsIn K mainGlobals "str" = some none)
    (z_tuple : PySem.W.nsIn K mainGlobals "tuple" = some none)
    : ∃ fd : FuncData, (∀ (s : Shared) (v : Value), BindsTo s fd ⟨[v], []⟩ [("script", v)]) ∧ ∀ base : Heap, K.In base → base.Ns mainGlobals mg → (base.get? sysModules).isSome = true → Quiet l.prog w K mg base 90 fa fd ["script"] (sp_law K) := by
  have e := hfa.symm.trans (PySem.W.mg_of X G a25)
  cases e
  have F0 := fun_mk (st := s_u_law_state) l0 e0 k0
  have b0 := F0.binds (ps := ["script"]) fun _ _ _ _ _ _ us hl => match us, hl with | [_], _ => rfl
  have F1 := fun_mk (st := s_u_law_mix) l1 e1 k1
  have b1 := F1.binds (ps := ["cell"]) fun _ _ _ _ _ _ us hl => match us, hl with | [_], _ => rfl
  have F2 := fun_mk (st := s_u_law_number) l2 e2 k2
  have b2 := F2.binds (ps := ["cell"]) fun _ _ _ _ _ _ us hl => match us, hl with | [_], _ => rfl
  have F3 := fun_mk (st := s_u_law_draw) l3 e3 k3
  have b3 := F3.binds (ps := ["state", "many"]) fun _ _ _ _ _ _ us hl => match us, hl with | [_, _], _ => rfl
  have F4 := fun_mk (st := s_u_law_word) l4 e4 k4
  have b4 := F4.binds (ps := ["state", "many"]) fun _ _ _ _ _ _ us hl => match us, hl with | [_, _], _ => rfl
  have F5 := fun_mk (st := s_u_law_names) l5 e5 k5
  have b5 := F5.binds (ps := ["state", "count"]) fun _ _ _ _ _ _ us hl => match us, hl with | [_, _], _ => rfl
  have F6 := fun_mk (st := s_u_law_operations) l6 e6 k6
  have b6 := F6.binds (ps := ["state"]) fun _ _ _ _ _ _ us hl => match us, hl with | [_], _ => rfl
  have F7 := fun_mk (st := s_u_law_leaf) l7 e7 k7
  have b7 := F7.binds (ps := ["state", "operations", "count"]) fun _ _ _ _ _ _ us hl => match us, hl with | [_, _, _], _ => rfl
  have F8 := fun_mk (st := s_u_law_term) l8 e8 k8
  have b8 := F8.binds (ps := ["state", "operations", "count", "height"]) fun _ _ _ _ _ _ us hl => match us, hl with | [_, _, _, _], _ => rfl
  have F9 := fun_mk (st := s_u_law_positions) l9 e9 k9
  have b9 := F9.binds (ps := ["term"]) fun _ _ _ _ _ _ us hl => match us, hl with | [_], _ => rfl
  have F10 := fun_mk (st := s_u_law_subterm) l10 e10 k10
  have b10 := F10.binds (ps := ["term", "position"]) fun _ _ _ _ _ _ us hl => match us, hl with | [_, _], _ => rfl
  have F11 := fun_mk (st := s_u_law_replace) l11 e11 k11
  have b11 := F11.binds (ps := ["term", "position", "new"]) fun _ _ _ _ _ _ us hl => match us, hl with | [_, _, _], _ => rfl
  have F12 := fun_mk (st := s_u_law_variables) l12 e12 k12
  have b12 := F12.binds (ps := ["term"]) fun _ _ _ _ _ _ us hl => match us, hl with | [_], _ => rfl
  have F13 := fun_mk (st := s_u_law_pattern) l13 e13 k13
  have b13 := F13.binds (ps := ["state", "term", "places"]) fun _ _ _ _ _ _ us hl => match us, hl with | [_, _, _], _ => rfl
  have F14 := fun_mk (st := s_u_law_substitute) l14 e14 k14
  have b14 := F14.binds (ps := ["term", "substitution"]) fun _ _ _ _ _ _ us hl => match us, hl with | [_, _], _ => rfl
  have F15 := fun_mk (st := s_u_law_step) l15 e15 k15
  have b15 := F15.binds (ps := ["state", "operations", "count", "term", "source"]) fun _ _ _ _ _ _ us hl => match us, hl with | [_, _, _, _, _], _ => rfl
  have F16 := fun_mk (st := s_u_law_chain) l16 e16 k16
  have b16 := F16.binds (ps := ["state", "operations", "count", "term", "first", "many"]) fun _ _ _ _ _ _ us hl => match us, hl with | [_, _, _, _, _, _], _ => rfl
  have F17 := fun_mk (st := s_reverse) l17 e17 k17
  have b17 := F17.binds (ps := ["steps"]) fun _ _ _ _ _ _ us hl => match us, hl with | [_], _ => rfl
  have F18 := fun_mk (st := s_u_law_equation) l18 e18 k18
  have b18 := F18.binds (ps := ["given", "stages", "source"]) fun _ _ _ _ _ _ us hl => match us, hl with | [_, _, _], _ => rfl
  have F19 := fun_mk (st := s_u_law_is_step) l19 e19 k19
  have b19 := F19.binds (ps := ["step"]) fun _ _ _ _ _ _ us hl => match us, hl with | [_], _ => rfl
  have F20 := fun_mk (st := s_u_law_same) l20 e20 k20
  have b20 := F20.binds (ps := ["first", "second"]) fun _ _ _ _ _ _ us hl => match us, hl with | [_, _], _ => rfl
  have F21 := fun_mk (st := s_u_law_has_position) l21 e21 k21
  have b21 := F21.binds (ps := ["term", "position"]) fun _ _ _ _ _ _ us hl => match us, hl with | [_, _], _ => rfl
  have F22 := fun_mk (st := s_u_law_next) l22 e22 k22
  have b22 := F22.binds (ps := ["given", "stages", "term", "step"]) fun _ _ _ _ _ _ us hl => match us, hl with | [_, _, _, _], _ => rfl
  have F23 := fun_mk (st := s_u_law_follow) l23 e23 k23
  have b23 := F23.binds (ps := ["given", "stages", "term", "steps"]) fun _ _ _ _ _ _ us hl => match us, hl with | [_, _, _, _], _ => rfl
  have F24 := fun_mk (st := s_u_law_tells) l24 e24 k24
  have b24 := F24.binds (ps := ["actual", "due"]) fun _ _ _ _ _ _ us hl => match us, hl with | [_, _], _ => rfl
  have F25 := fun_mk (st := s_law) l25 e25 k25
  have b25 := F25.binds (ps := ["script"]) fun _ _ _ _ _ _ us hl => match us, hl with | [_], _ => rfl
  have T : Tx K mg ⟨f0, _, f1, _, f2, _, f3, _, f4, _, f5, _, f6, _, f7, _, f8, _, f9, _, f10, _, f11, _, f12, _, f13, _, f14, _, f15, _, f16, _, f17, _, f18, _, f19, _, f20, _, f21, _, f22, _, f23, _, f24, _, fa, _⟩ := ⟨F0, b0, PySem.W.mg_of X G a0, F1, b1, PySem.W.mg_of X G a1, F2, b2, PySem.W.mg_of X G a2, F3, b3, PySem.W.mg_of X G a3, F4, b4, PySem.W.mg_of X G a4, F5, b5, PySem.W.mg_of X G a5, F6, b6, PySem.W.mg_of X G a6, F7, b7, PySem.W.mg_of X G a7, F8, b8, PySem.W.mg_of X G a8, F9, b9, PySem.W.mg_of X G a9, F10, b10, PySem.W.mg_of X G a10, F11, b11, PySem.W.mg_of X G a11, F12, b12, PySem.W.mg_of X G a12, F13, b13, PySem.W.mg_of X G a13, F14, b14, PySem.W.mg_of X G a14, F15, b15, PySem.W.mg_of X G a15, F16, b16, PySem.W.mg_of X G a16, F17, b17, PySem.W.mg_of X G a17, F18, b18, PySem.W.mg_of X G a18, F19, b19, PySem.W.mg_of X G a19, F20, b20, PySem.W.mg_of X G a20, F21, b21, PySem.W.mg_of X G a21, F22, b22, PySem.W.mg_of X G a22, F23, b23, PySem.W.mg_of X G a23, F24, b24, PySem.W.mg_of X G a24, F25, b25, PySem.W.mg_of X G a25, PySem.W.mg_none_of X G z_bool, PySem.W.mg_none_of X G z_dict, PySem.W.mg_none_of X G z_int, PySem.W.mg_none_of X G z_isinstance, PySem.W.mg_none_of X G z_len, PySem.W.mg_none_of X G z_list, PySem.W.mg_none_of X G z_range, PySem.W.mg_none_of X G z_repr, PySem.W.mg_none_of X G z_str, PySem.W.mg_none_of X G z_tuple⟩
  refine ⟨PySem.W.fnOf "law" "law" (defArgs s_law) (defBody s_law) (defScope s_law) .none kV25 dc25 pm25 an25 cd25 ct25, fun s v => .of_eq rfl, fun base _ _ hbm => ?_⟩
  exact ok_law (P := l.prog) (w := w) (base := base) T hbm
theorem walk {l : PySem.W.OpenLaw} {q : Program} {loose : List Str} {XP : (Str → Option Value) → Heap → Prop} {YP : World → Heap → Prop} {d : DefRec} {K : Params → PySem.W.Frag} (hn : l.most = some 63) (hdf : d.params.defaults = [])
    (hq : importsNone q = true) (hY : ∀ (w : World) (h : Heap), YP w h → (K w.params).In h)
    (F : ∀ (w : World) (mg : Str → Option Value) (fa : Addr) (h : Heap), (K w.params).In h → h.Ns mainGlobals mg → mg d.name = some (.ref fa) →
      ∃ fd : FuncData, (∀ (s : Shared) (u : Value), BindsTo s fd ⟨[u], []⟩ [("script", u)]) ∧ ∀ base : Heap, (K w.params).In base → base.Ns mainGlobals mg → (base.get? sysModules).isSome = true → Quiet l.prog w (K w.params) mg base 90 fa fd ["script"] (sp_law (K w.params))) :
    PySem.W.WalkO q loose XP YP l.row.toRowW d [] (fun f vs => PySem.call f vs) :=
  walk_quietS (n := 63) (k := 90) (x := "script") (sp := fun w => sp_law (K w.params)) hn (by decide) hdf hq ⟨rfl, by decide, by decide⟩ hY F (fun _ _ a ns hl hS => ⟨a, ns, rfl, hS, hl, fun _ => rfl⟩)
end Lw
open PySem PySem.W PyProof.Rows
set_option maxRecDepth 100000 in
set_option maxHeartbeats 0 in
theorem PySem.Challenge.cw_joinedends_k15_reversed_steps_holds : PySem.Challenge.rw_joinedends_k15_reversed_steps.Holds := by
  w_on; o_law; k_head; (case hw => w_witness2)
  k_fill
  refine Lw.walk (l := PySem.Challenge.rw_joinedends_k15_reversed_steps) rfl rfl (by decide +kernel) (fun w h Y => PySem.W.kIn_of Y) ?F
  case F =>
    intro w mg fa h KX G hmg
    refine' Lw.all_mk KX G hmg ?a0 ?l0 ?e0 ?k0 ?a1 ?l1 ?e1 ?k1 ?a2 ?l2 ?e2 ?k2 ?a3 ?l3 ?e3 ?k3 ?a4 ?l4 ?e4 ?k4 ?a5 ?l5 ?e5 ?k5 ?a6 ?l6 ?e6 ?k6 ?a7 ?l7 ?e7 ?k7 ?a8 ?l8 ?e8 ?k8 ?a9 ?l9 ?e9 ?k9 ?a10 ?l10 ?e10 ?k10 ?a11 ?l11 ?e11 ?k11 ?a12 ?l12 ?e12 ?k12 ?a13 ?l13 ?e13 ?k13 ?a14 ?l14 ?e14 ?k14 ?a15 ?l15 ?e15 ?k15 ?a16 ?l16 ?e16 ?k16 ?a17 ?l17 ?e17 ?k17 ?a18 ?l18 ?e18 ?k18 ?a19 ?l19 ?e19 ?k19 ?a20 ?l20 ?e20 ?k20 ?a21 ?l21 ?e21 ?k21 ?a22 ?l22 ?e22 ?k22 ?a23 ?l23 ?e23 ?k23 ?a24 ?l24 ?e24 ?k24 ?a25 ?l25 ?e25 ?k25 ?z_bool ?z_dict ?z_int ?z_isinstance ?z_len ?z_list ?z_range ?z_repr ?z_str ?z_tuple
    (case a0 => k_is)
    (case l0 => k_is)
    (case e0 => k_is)
    (case k0 => k_is)
    (case a1 => k_is)
    (case l1 => k_is)
    (case e1 => k_is)
    (case k1 => k_is)
    (case a2 => k_is)
    (case l2 => k_is)
    (case e2 => k_is)
    (case k2 => k_is)
    (case a3 => k_is)
    (case l3 => k_is)
    (case e3 => k_is)
    (case k3 => k_is)
    (case a4 => k_is)
    (case l4 => k_is)
    (case e4 => k_is)
    (case k4 => k_is)
    (case a5 => k_is)
    (case l5 => k_is)
    (case e5 => k_is)
    (case k5 => k_is)
    (case a6 => k_is)
    (case l6 => k_is)
    (case e6 => k_is)
    (case k6 => k_is)
    (case a7 => k_is)
    (case l7 => k_is)
    (case e7 => k_is)
    (case k7 => k_is)
    (case a8 => k_is)
    (case l8 => k_is)
    (case e8 => k_is)
    (case k8 => k_is)
    (case a9 => k_is)
    (case l9 => k_is)
    (case e9 => k_is)
    (case k9 => k_is)
    (case a10 => k_is)
    (case l10 => k_is)
    (case e10 => k_is)
    (case k10 => k_is)
    (case a11 => k_is)
    (case l11 => k_is)
    (case e11 => k_is)
    (case k11 => k_is)
    (case a12 => k_is)
    (case l12 => k_is)
    (case e12 => k_is)
    (case k12 => k_is)
    (case a13 => k_is)
    (case l13 => k_is)
    (case e13 => k_is)
    (case k13 => k_is)
    (case a14 => k_is)
    (case l14 => k_is)
    (case e14 => k_is)
    (case k14 => k_is)
    (case a15 => k_is)
    (case l15 => k_is)
    (case e15 => k_is)
    (case k15 => k_is)
    (case a16 => k_is)
    (case l16 => k_is)
    (case e16 => k_is)
    (case k16 => k_is)
    (case a17 => k_is)
    (case l17 => k_is)
    (case e17 => k_is)
    (case k17 => k_is)
    (case a18 => k_is)
    (case l18 => k_is)
    (case e18 => k_is)
    (case k18 => k_is)
    (case a19 => k_is)
    (case l19 => k_is)
    (case e19 => k_is)
    (case k19 => k_is)
    (case a20 => k_is)
    (case l20 => k_is)
    (case e20 => k_is)
    (case k20 => k_is)
    (case a21 => k_is)
    (case l21 => k_is)
    (case e21 => k_is)
    (case k21 => k_is)
    (case a22 => k_is)
    (case l22 => k_is)
    (case e22 => k_is)
    (case k22 => k_is)
    (case a23 => k_is)
    (case l23 => k_is)
    (case e23 => k_is)
    (case k23 => k_is)
    (case a24 => k_is)
    (case l24 => k_is)
    (case e24 => k_is)
    (case k24 => k_is)
    (case a25 => k_is)
    (case l25 => k_is)
    (case e25 => k_is)
    (case k25 => k_is)
    (case z_bool => k_is)
    (case z_dict => k_is)
    (case z_int => k_is)
    (case z_isinstance => k_is)
    (case z_len => k_is)
    (case z_list => k_is)
    (case z_range => k_is)
    (case z_repr => k_is)
    (case z_str => k_is)
    (case z_tuple => k_is)
#print axioms PySem.Challenge.cw_joinedends_k15_reversed_steps_holds
