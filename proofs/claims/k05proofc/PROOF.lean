import PyProof.Rows.All
import Wide.All
import OpenK.AllK
import Wide.FinOn
import HandS.ForMost
import HandS.Flow
import HandS.IsInst
import HandS.TupAny
import HandS.TupLe
import HandS.DictComp
import HandS.Wide
import HandS.Walk
import HandS.Conv
import HandS.Steps
import KE.GoesEnum
import HandS.Iter
import HandS.Text
import PySem.Challenge.RW_tokenfold_k05_what_is_no_net
import PyProof.ReprRoads
import PyProof.ReprLen
set_option Elab.async false
set_option linter.all false
set_option autoImplicit false
set_option maxRecDepth 100000
set_option maxHeartbeats 2000000
/-! Readings over data: what an expression, a test, a statement makes of slots that hold data, own lists, own dicts, a purse. -/
namespace Lw
open PySem PySem.Spec PyProof.Rows L2

/-! ### heaps that grow -/
def Ex (H H' : Hp) : Prop := ∀ a o, H a = some o → H' a = some o
theorem Ex.refl (H : Hp) : Ex H H := fun _ _ h => h
theorem Ex.trans {H H1 H2 : Hp} (a : Ex H H1) (b : Ex H1 H2) : Ex H H2 := fun x o h => b x o (a x o h)
theorem Ex.new {H : Hp} {p : Addr} {o : HO} (h : H p = none) : Ex H (upd H p o) := fun a u e => by
  rw [upd_ne (ne_of_none e h)]
  exact e
theorem Ex.back {H H' : Hp} {p : Addr} (e : Ex H H') (h : H' p = none) : H p = none := by
  cases h1 : H p with
  | none => rfl
  | some o =>
    rw [e p o h1] at h
    cases h
theorem Ex.upd2 {I H : Hp} {p : Addr} {o : HO} (e : Ex I H) : Ex (upd I p o) (upd H p o) := fun a u h => by
  by_cases z : a = p
  · subst z
    rw [upd_same] at h ⊢
    exact h
  · rw [upd_ne z] at h ⊢
    exact e a u h
theorem Ex.cell {I H : Hp} {p : Addr} {o : HO} (e : Ex I H) (h : I p = none) : Ex I (upd H p o) := fun a u q => by
  rw [upd_ne (ne_of_none q h)]
  exact e a u q
theorem Ex.rd {H H' : Hp} {a : Addr} {u : HO} (e : Ex H H') (h : Rd H a u) : Rd H' a u := by
  rcases h with h | ⟨o, h⟩
  · exact Or.inl (e a _ h)
  · exact Or.inr ⟨o, e a _ h⟩
/-! data: none, bools, ints, texts, lists that stand plainly, tuples -/
mutual
inductive Dq (K : PySem.W.Frag) (H : Hp) : V → PyData → Prop
  | non : Dq K H .non .none
  | bl (b : Bool) : Dq K H (.bl b) (.bool b)
  | int (i : Int) : Dq K H (.int i) (.int i)
  | str (x : Str) : Dq K H (.str x) (.str x)
  | lst {a : Addr} {xs : List V} {ds : List PyData} : H a = some (.lst xs) → DqAll K H xs ds → Dq K H (.ref a) (.list ds)
  | tup {a : Addr} {xs : List V} {ds : List PyData} : SqT K H a xs → DqAll K H xs ds → Dq K H (.ref a) (.tuple ds)
inductive DqAll (K : PySem.W.Frag) (H : Hp) : List V → List PyData → Prop
  | nil : DqAll K H [] []
  | cons {v : V} {vs : List V} {d : PyData} {ds : List PyData} : Dq K H v d → DqAll K H vs ds → DqAll K H (v :: vs) (d :: ds)
end
section
variable {K : PySem.W.Frag} {H : Hp}
mutual
theorem Dq.dp : ∀ {d : PyData} {v : V}, Dq K H v d → Dp K H v d
  | .none, _, h => by cases h; exact .non
  | .bool b, _, h => by cases h; exact .bl _
  | .int i, _, h => by cases h; exact .int _
  | .str x, _, h => by cases h; exact .str _
  | .list ds, _, h => by
    cases h with
    | lst hs ha => exact .lst (.inl (.inl hs)) (DqAll.dp ha)
  | .tuple ds, _, h => by
    cases h with
    | tup hs ha => exact .tup hs (DqAll.dp ha)
  | .dict _, _, h => by cases h
theorem DqAll.dp : ∀ {ds : List PyData} {vs : List V}, DqAll K H vs ds → DpAll K H vs ds
  | [], _, h => by cases h; exact .nil
  | d :: ds, _, h => by
    cases h with
    | cons h1 h2 => exact .cons (Dq.dp h1) (DqAll.dp h2)
end
end
section
variable {K : PySem.W.Frag} {H H' : Hp}
theorem Ex.l {a : Addr} {xs : List V} (e : Ex H H') (h : SqL K H a xs) : SqL K H' a xs := by
  rcases h with h | h
  · exact Or.inl (e.rd h)
  · exact Or.inr h
theorem Ex.t {a : Addr} {xs : List V} (e : Ex H H') (h : SqT K H a xs) : SqT K H' a xs := by
  rcases h with h | h
  · exact Or.inl (e.rd h)
  · exact Or.inr h
mutual
theorem dp_mono (e : Ex H H') : ∀ {d : PyData} {v : V}, Dq K H v d → Dq K H' v d
  | .none, _, h => by cases h; exact .non
  | .bool b, _, h => by cases h; exact .bl _
  | .int i, _, h => by cases h; exact .int _
  | .str x, _, h => by cases h; exact .str _
  | .list ds, _, h => by
    cases h with
    | lst hs ha => exact .lst (e _ _ hs) (dpA_mono e ha)
  | .tuple ds, _, h => by
    cases h with
    | tup hs ha => exact .tup (e.t hs) (dpA_mono e ha)
  | .dict _, _, h => by cases h
theorem dpA_mono (e : Ex H H') : ∀ {ds : List PyData} {vs : List V}, DqAll K H vs ds → DqAll K H' vs ds
  | [], _, h => by cases h; exact .nil
  | d :: ds, _, h => by
    cases h with
    | cons h1 h2 => exact .cons (dp_mono e h1) (dpA_mono e h2)
end
theorem dpA_len : ∀ {vs : List V} {ds : List PyData}, DqAll K H vs ds → vs.length = ds.length
  | _, [], h => by cases h; rfl
  | _, _ :: _, h => by cases h with | cons _ h2 => simp [dpA_len h2]
theorem dpA_get : ∀ {vs : List V} {ds : List PyData} {i : Nat} {d : PyData}, DqAll K H vs ds → ds[i]? = some d → ∃ v, vs[i]? = some v ∧ Dq K H v d
  | _, [], _, _, h, e => by simp at e
  | _, x :: ds, 0, d, h, e => by
    cases h with
    | cons h1 h2 =>
      have e' : x = d := by simpa using e
      subst e'
      exact ⟨_, rfl, h1⟩
  | _, x :: ds, i + 1, d, h, e => by
    cases h with
    | cons h1 h2 =>
      obtain ⟨v, e1, e2⟩ := dpA_get h2 (show ds[i]? = some d by simpa using e)
      exact ⟨v, by simpa using e1, e2⟩
theorem dpA_app : ∀ {vs ws : List V} {ds es : List PyData}, DqAll K H vs ds → DqAll K H ws es → DqAll K H (vs ++ ws) (ds ++ es)
  | _, _, [], _, h, k => by cases h; exact k
  | _, _, _ :: _, _, h, k => by
    cases h with
    | cons h1 h2 => exact .cons h1 (dpA_app h2 k)
theorem dpA_drop : ∀ {vs : List V} {ds : List PyData} (n : Nat), DqAll K H vs ds → DqAll K H (vs.drop n) (ds.drop n)
  | _, _, 0, h => h
  | _, [], n + 1, h => by cases h; exact .nil
  | _, _ :: _, n + 1, h => by
    cases h with
    | cons h1 h2 => exact dpA_drop n h2
theorem dpA_take : ∀ {vs : List V} {ds : List PyData} (n : Nat), DqAll K H vs ds → DqAll K H (vs.take n) (ds.take n)
  | _, _, 0, h => .nil
  | _, [], n + 1, h => by cases h; exact .nil
  | _, _ :: _, n + 1, h => by
    cases h with
    | cons h1 h2 => exact .cons h1 (dpA_take n h2)
theorem dpA_set : ∀ {vs : List V} {ds : List PyData} {v : V} {d : PyData} (n : Nat), DqAll K H vs ds → Dq K H v d → DqAll K H (vs.set n v) (ds.set n d)
  | _, [], _, _, _, h, _ => by cases h; exact .nil
  | _, _ :: _, _, _, 0, h, k => by
    cases h with
    | cons h1 h2 => exact .cons k h2
  | _, _ :: _, _, _, n + 1, h, k => by
    cases h with
    | cons h1 h2 => exact .cons h1 (dpA_set n h2 k)
theorem dpA_erase : ∀ {vs : List V} {ds : List PyData} (n : Nat), DqAll K H vs ds → DqAll K H (vs.eraseIdx n) (ds.eraseIdx n)
  | _, [], _, h => by cases h; exact .nil
  | _, _ :: _, 0, h => by
    cases h with
    | cons h1 h2 => exact h2
  | _, _ :: _, n + 1, h => by
    cases h with
    | cons h1 h2 => exact .cons h1 (dpA_erase n h2)
theorem dp_int {v : V} {i : Int} (h : Dq K H v (.int i)) : v = .int i := by cases h; rfl
theorem dp_bl {v : V} {b : Bool} (h : Dq K H v (.bool b)) : v = .bl b := by cases h; rfl
theorem dp_str {v : V} {x : Str} (h : Dq K H v (.str x)) : v = .str x := by cases h; rfl
theorem dp_non {v : V} (h : Dq K H v .none) : v = .non := by cases h; rfl
theorem dp_tup {v : V} {ds : List PyData} (h : Dq K H v (.tuple ds)) : ∃ a xs, v = .ref a ∧ SqT K H a xs ∧ DqAll K H xs ds := by
  cases h with
  | tup h1 h2 => exact ⟨_, _, rfl, h1, h2⟩
theorem dp_lst {v : V} {ds : List PyData} (h : Dq K H v (.list ds)) : ∃ a xs, v = .ref a ∧ H a = some (.lst xs) ∧ DqAll K H xs ds := by
  cases h with
  | lst h1 h2 => exact ⟨_, _, rfl, h1, h2⟩
theorem dpA_cut {vs : List V} {ds : List PyData} (lo hi : Option Int) (h : DqAll K H vs ds) : DqAll K H (cutV vs lo hi) ((ds.drop (HT.sIx ds.length 0 lo)).take (HT.sIx ds.length ds.length hi - HT.sIx ds.length 0 lo)) := by
  unfold cutV
  rw [dpA_len h]
  exact dpA_take _ (dpA_drop _ h)
end

/-! ### what slots hold -/
inductive Val where
  | dat (d : PyData)
  | lst (p : Addr) (ds : List PyData)
  | dic (p : Addr) (kvs : List (Key × V))
  | prs (p : Addr) (n : Nat)
  | seq (ns : List Int)
abbrev Env := List (Option Val)
def isCell : Val → Bool
  | .dat _ | .seq _ => false
  | _ => true
def PurseOk (xs : List V) (n : Nat) : Prop := ∃ a b c : Int, xs = [.int a, .int b, .int c] ∧ 0 ≤ a ∧ a < 2 ^ 2100 ∧ 0 ≤ b ∧ b + n ≤ 2 ^ 60 ∧ 0 ≤ c ∧ c + n ≤ 2 ^ 80
theorem PurseOk.less {xs : List V} {n m : Nat} (h : PurseOk xs n) (k : m ≤ n) : PurseOk xs m := by
  obtain ⟨a, b, c, e, h1, h2, h3, h4, h5, h6⟩ := h
  exact ⟨a, b, c, e, h1, h2, h3, by omega, h5, by omega⟩
def VOk (K : PySem.W.Frag) (F I H : Hp) (v : V) : Val → Prop
  | .dat d => Dq K I v d
  | .lst p ds => v = .ref p ∧ F p = none ∧ I p = none ∧ ∃ xs, H p = some (.lst xs) ∧ DqAll K I xs ds
  | .dic p kvs => v = .ref p ∧ F p = none ∧ I p = none ∧ H p = some (.dK kvs)
  | .prs p n => v = .ref p ∧ F p = none ∧ I p = none ∧ ∃ xs, H p = some (.lst xs) ∧ PurseOk xs n
  | .seq ns => ∃ a, v = .ref a ∧ SqL K I a (ns.map V.int)
/-- F: what stood at the entry and stays; I0, I: what data lean on, at the entry and now -/
structure EnvI (K : PySem.W.Frag) (F I0 I : Hp) (σ : L2.St) (H : Hp) (env : Env) : Prop where
  fh : Ex F H
  oi : Ex I0 I
  ih : Ex I H
  fr : ∀ a, F a ≠ none → I0 a = none → I a = none
  len : env.length = σ.length
  at_ : ∀ (i : Nat) (x : Val), env[i]? = some (some x) → ∃ v : V, σ[i]? = some (some v) ∧ VOk K F I H v x
  ne : ∀ (i j : Nat) (x y : Val), i ≠ j → env[i]? = some (some x) → env[j]? = some (some y) → isCell x = true → isCell y = true → σ[i]? ≠ σ[j]?
section
variable {K : PySem.W.Frag} {F I0 I I' H H' : Hp} {σ : L2.St} {env : Env}
/-- the heap has grown -/
theorem VOk.grow {v : V} {x : Val} (e : Ex I I') (hc : ∀ a, v = .ref a → isCell x = true → I a = none → I' a = none ∧ H' a = H a) (h : VOk K F I H v x) : VOk K F I' H' v x := by
  cases x with
  | dat d => exact dp_mono e h
  | lst p ds =>
    obtain ⟨rfl, hf, hi, xs, hh, hd⟩ := h
    obtain ⟨h1, h2⟩ := hc p rfl rfl hi
    exact ⟨rfl, hf, h1, xs, h2.trans hh, dpA_mono e hd⟩
  | dic p kvs =>
    obtain ⟨rfl, hf, hi, hh⟩ := h
    obtain ⟨h1, h2⟩ := hc p rfl rfl hi
    exact ⟨rfl, hf, h1, h2.trans hh⟩
  | prs p n =>
    obtain ⟨rfl, hf, hi, xs, hh, hp⟩ := h
    obtain ⟨h1, h2⟩ := hc p rfl rfl hi
    exact ⟨rfl, hf, h1, xs, h2.trans hh, hp⟩
  | seq ns =>
    obtain ⟨a, rfl, hs⟩ := h
    exact ⟨a, rfl, e.l hs⟩
theorem VOk.there {v : V} {x : Val} (h : VOk K F I H v x) (hx : isCell x = true) : ∃ a o, v = .ref a ∧ F a = none ∧ I a = none ∧ H a = some o := by
  cases x with
  | dat d => cases hx
  | lst p ds =>
    obtain ⟨rfl, hf, hi, xs, hh, _⟩ := h
    exact ⟨p, _, rfl, hf, hi, hh⟩
  | dic p kvs =>
    obtain ⟨rfl, hf, hi, hh⟩ := h
    exact ⟨p, _, rfl, hf, hi, hh⟩
  | prs p n =>
    obtain ⟨rfl, hf, hi, xs, hh, _⟩ := h
    exact ⟨p, _, rfl, hf, hi, hh⟩
  | seq ns => cases hx
/-- a new thing that nobody changes -/
theorem EnvI.newD (E : EnvI K F I0 I σ H env) {p : Addr} {o : HO} (hp : H p = none) : EnvI K F I0 (upd I p o) σ (upd H p o) env where
  fh := E.fh.trans (Ex.new hp)
  oi := E.oi.trans (Ex.new (E.ih.back hp))
  ih := E.ih.upd2
  fr := fun a h1 h2 => by
    have z : a ≠ p := fun z => h1 (z ▸ E.fh.back hp)
    rw [upd_ne z]
    exact E.fr a h1 h2
  len := E.len
  at_ := fun i x h => by
    obtain ⟨v, h1, h2⟩ := E.at_ i x h
    refine ⟨v, h1, h2.grow (Ex.new (E.ih.back hp)) fun a ea hx hi => ?_⟩
    obtain ⟨b, o', eb, _, _, hb⟩ := h2.there hx
    rw [ea] at eb
    cases eb
    have z : a ≠ p := ne_of_none hb hp
    rw [upd_ne z, upd_ne z]
    exact ⟨hi, rfl⟩
  ne := E.ne
/-- a new thing that no data lean on -/
theorem EnvI.newC (E : EnvI K F I0 I σ H env) {p : Addr} {o : HO} (hp : H p = none) : EnvI K F I0 I σ (upd H p o) env where
  fh := E.fh.trans (Ex.new hp)
  oi := E.oi
  ih := E.ih.trans (Ex.new hp)
  fr := E.fr
  len := E.len
  at_ := fun i x h => by
    obtain ⟨v, h1, h2⟩ := E.at_ i x h
    refine ⟨v, h1, h2.grow (Ex.refl _) fun a ea hx hi => ?_⟩
    obtain ⟨b, o', eb, _, _, hb⟩ := h2.there hx
    rw [ea] at eb
    cases eb
    have z : a ≠ p := ne_of_none hb hp
    rw [upd_ne z]
    exact ⟨hi, rfl⟩
  ne := E.ne
/-- a slot gets data -/
theorem EnvI.setD (E : EnvI K F I0 I σ H env) {v : V} {d : PyData} (k : Nat) (hd : Dq K I v d) : EnvI K F I0 I (σ.set k (some v)) H (env.set k (some (.dat d))) where
  fh := E.fh
  oi := E.oi
  ih := E.ih
  fr := E.fr
  len := by rw [List.length_set, List.length_set, E.len]
  at_ := fun i x h => by
    by_cases z : k = i
    · subst z
      have hk : k < env.length := by
        have := (List.getElem?_eq_some_iff.mp h).1
        simpa using this
      rw [List.getElem?_set_self hk] at h
      cases h
      exact ⟨v, List.getElem?_set_self (by rw [← E.len]; exact hk), hd⟩
    · rw [List.getElem?_set_ne z] at h
      obtain ⟨w, h1, h2⟩ := E.at_ i x h
      exact ⟨w, by rw [List.getElem?_set_ne z]; exact h1, h2⟩
  ne := fun i j x y hij hi hj cx cy => by
    have off : ∀ {m z}, (env.set k (some (.dat d)))[m]? = some (some z) → isCell z = true → k ≠ m := fun {m z} h c e => by
      subst e
      have hk : k < env.length := by
        have := (List.getElem?_eq_some_iff.mp h).1
        simpa using this
      rw [List.getElem?_set_self hk] at h
      cases h
      cases c
    have zi := off hi cx
    have zj := off hj cy
    rw [List.getElem?_set_ne zi] at hi
    rw [List.getElem?_set_ne zj] at hj
    rw [List.getElem?_set_ne zi, List.getElem?_set_ne zj]
    exact E.ne i j x y hij hi hj cx cy
/-- a slot gets a new cell -/
theorem EnvI.setC (E : EnvI K F I0 I σ H env) {p : Addr} {o : HO} {x : Val} (k : Nat) (hp : H p = none) (hx : VOk K F I (upd H p o) (.ref p) x) : EnvI K F I0 I (σ.set k (some (.ref p))) (upd H p o) (env.set k (some x)) := by
  have E1 := E.newC (o := o) hp
  refine ⟨E1.fh, E1.oi, E1.ih, E1.fr, by rw [List.length_set, List.length_set, E.len], fun i y h => ?_, fun i j y z hij hi hj cy cz => ?_⟩
  · by_cases e : k = i
    · subst e
      have hk : k < env.length := by
        have := (List.getElem?_eq_some_iff.mp h).1
        simpa using this
      rw [List.getElem?_set_self hk] at h
      cases h
      exact ⟨_, List.getElem?_set_self (by rw [← E.len]; exact hk), hx⟩
    · rw [List.getElem?_set_ne e] at h
      obtain ⟨w, h1, h2⟩ := E1.at_ i y h
      exact ⟨w, by rw [List.getElem?_set_ne e]; exact h1, h2⟩
  · have other : ∀ {m u}, k ≠ m → (env.set k (some x))[m]? = some (some u) → isCell u = true → (σ.set k (some (.ref p)))[m]? ≠ some (some (.ref p)) := fun {m u} km h c => by
      rw [List.getElem?_set_ne km] at h ⊢
      obtain ⟨w, h1, h2⟩ := E.at_ m u h
      obtain ⟨a, o', ea, _, _, ha⟩ := h2.there c
      rw [h1, ea]
      intro q
      cases q
      rw [hp] at ha
      cases ha
    have self : ∀ {m u}, k = m → (env.set k (some x))[m]? = some (some u) → (σ.set k (some (.ref p)))[m]? = some (some (.ref p)) := fun {m u} km h => by
      subst km
      have hk : k < env.length := by
        have := (List.getElem?_eq_some_iff.mp h).1
        simpa using this
      exact List.getElem?_set_self (by rw [← E.len]; exact hk)
    by_cases ei : k = i
    · rw [self ei hi]
      have ej : k ≠ j := fun e => hij (ei.symm.trans e)
      exact fun q => other ej hj cz q.symm
    · by_cases ej : k = j
      · rw [self ej hj]
        exact other ei hi cy
      · rw [List.getElem?_set_ne ei] at hi ⊢
        rw [List.getElem?_set_ne ej] at hj ⊢
        exact E.ne i j y z hij hi hj cy cz
/-- a slot is forgotten -/
theorem EnvI.forget (E : EnvI K F I0 I σ H env) {env' : Env} (hl : env'.length = env.length) (h : ∀ (i : Nat) (x : Val), env'[i]? = some (some x) → env[i]? = some (some x)) : EnvI K F I0 I σ H env' :=
  ⟨E.fh, E.oi, E.ih, E.fr, hl.trans E.len, fun i x e => E.at_ i x (h i x e), fun i j x y hij hi hj cx cy => E.ne i j x y hij (h i x hi) (h j y hj) cx cy⟩
/-- a cell changes its content -/
theorem EnvI.putC (E : EnvI K F I0 I σ H env) {k : Nat} {x y : Val} {p : Addr} {o : HO} (hk : env[k]? = some (some x)) (cx : isCell x = true) (hs : σ[k]? = some (some (.ref p))) (hI : I p = none) (hF : F p = none) (hy : VOk K F I (upd H p o) (.ref p) y) : EnvI K F I0 I σ (upd H p o) (env.set k (some y)) := by
  have kl : k < env.length := (List.getElem?_eq_some_iff.mp hk).1
  refine ⟨E.fh.cell hF, E.oi, E.ih.cell hI, E.fr, by rw [List.length_set, E.len], fun i z h => ?_, fun i j u w hij hi hj cu cw => ?_⟩
  · by_cases e : k = i
    · subst e
      rw [List.getElem?_set_self kl] at h
      cases h
      exact ⟨_, hs, hy⟩
    · rw [List.getElem?_set_ne e] at h
      obtain ⟨v, h1, h2⟩ := E.at_ i z h
      refine ⟨v, h1, h2.grow (Ex.refl _) fun a ea hz hi => ⟨hi, ?_⟩⟩
      have q := E.ne k i x z e hk h cx hz
      rw [hs, h1, ea] at q
      exact upd_ne fun w => q (by rw [w])
  · have cell : ∀ {m u}, (env.set k (some y))[m]? = some (some u) → isCell u = true → ∃ t, env[m]? = some (some t) ∧ isCell t = true := fun {m u} h c => by
      by_cases e : k = m
      · subst e
        exact ⟨x, hk, cx⟩
      · rw [List.getElem?_set_ne e] at h
        exact ⟨u, h, c⟩
    obtain ⟨t, ht, ct⟩ := cell hi cu
    obtain ⟨t', ht', ct'⟩ := cell hj cw
    exact E.ne i j t t' hij ht ht' ct ct'
/-- an own list becomes data -/
theorem EnvI.freeze (E : EnvI K F I0 I σ H env) {k : Nat} {a : Addr} {ds : List PyData} (hk : env[k]? = some (some (.lst a ds))) :
    ∃ I', σ[k]? = some (some (.ref a)) ∧ Ex I I' ∧ EnvI K F I0 I' σ H (env.set k (some (.dat (.list ds)))) := by
  have kl : k < env.length := (List.getElem?_eq_some_iff.mp hk).1
  obtain ⟨v, hs, rfl, hF, hI, xs, hH, hd⟩ := E.at_ k _ hk
  have e1 : Ex I (upd I a (.lst xs)) := Ex.new hI
  refine ⟨upd I a (.lst xs), hs, e1, E.fh, E.oi.trans e1, fun b o h => ?_, fun b h1 h2 => ?_, by rw [List.length_set, E.len], fun i x h => ?_, fun i j u w hij hi hj cu cw => ?_⟩
  · by_cases z : b = a
    · subst z
      rw [upd_same] at h
      exact hH.trans h
    · rw [upd_ne z] at h
      exact E.ih b o h
  · have z : b ≠ a := fun z => h1 (z ▸ hF)
    rw [upd_ne z]
    exact E.fr b h1 h2
  · by_cases e : k = i
    · subst e
      rw [List.getElem?_set_self kl] at h
      cases h
      exact ⟨_, hs, Dq.lst upd_same (dpA_mono e1 hd)⟩
    · rw [List.getElem?_set_ne e] at h
      obtain ⟨v, h1, h2⟩ := E.at_ i x h
      refine ⟨v, h1, h2.grow e1 fun b eb hx hi => ⟨?_, rfl⟩⟩
      have q := E.ne k i _ x e hk h rfl hx
      rw [hs, h1, eb] at q
      rw [upd_ne fun w => q (by rw [w])]
      exact hi
  · have off : ∀ {m z}, (env.set k (some (.dat (.list ds))))[m]? = some (some z) → isCell z = true → k ≠ m := fun {m z} h c e => by
      subst e
      rw [List.getElem?_set_self kl] at h
      cases h
      cases c
    have zi := off hi cu
    have zj := off hj cw
    rw [List.getElem?_set_ne zi] at hi
    rw [List.getElem?_set_ne zj] at hj
    exact E.ne i j u w hij hi hj cu cw
/-- a call that keeps all -/
theorem EnvI.called (E : EnvI K F I0 I σ H env) (e1 : Ex I I') (e2 : Ex I' H') (e3 : Ex H H') (fr : ∀ a, H a ≠ none → I a = none → I' a = none) : EnvI K F I0 I' σ H' env :=
  ⟨E.fh.trans e3, E.oi.trans e1, e2, fun a h1 h2 => fr a (fun z => h1 (E.fh.back z)) (E.fr a h1 h2), E.len, fun i x h => by
    obtain ⟨v, h1, h2⟩ := E.at_ i x h
    refine ⟨v, h1, h2.grow e1 fun a ea hx hi => ?_⟩
    obtain ⟨b, o, eb, _, _, hb⟩ := h2.there hx
    rw [ea] at eb
    cases eb
    exact ⟨fr a (by rw [hb]; exact fun z => nomatch z) hi, (e3 a o hb).trans hb.symm⟩, E.ne⟩
/-- a call that changes the cell at slot k alone -/
theorem EnvI.calledC (E : EnvI K F I0 I σ H env) {k : Nat} {x y : Val} {p : Addr} (hk : env[k]? = some (some x)) (cx : isCell x = true) (hs : σ[k]? = some (some (.ref p))) (hF : F p = none) (e1 : Ex I I') (e2 : Ex I' H')
    (e3 : ∀ a o, a ≠ p → H a = some o → H' a = some o) (fr : ∀ a, H a ≠ none → I a = none → I' a = none) (hy : VOk K F I' H' (.ref p) y) : EnvI K F I0 I' σ H' (env.set k (some y)) := by
  have kl : k < env.length := (List.getElem?_eq_some_iff.mp hk).1
  have ne_F : ∀ a, F a ≠ none → a ≠ p := fun a h z => h (z ▸ hF)
  refine ⟨fun a o h => e3 a o (ne_F a (by rw [h]; exact fun z => nomatch z)) (E.fh a o h), E.oi.trans e1, e2, fun a h1 h2 => fr a (fun z => h1 (E.fh.back z)) (E.fr a h1 h2), by rw [List.length_set, E.len], fun i z h => ?_, fun i j u w hij hi hj cu cw => ?_⟩
  · by_cases e : k = i
    · subst e
      rw [List.getElem?_set_self kl] at h
      cases h
      exact ⟨_, hs, hy⟩
    · rw [List.getElem?_set_ne e] at h
      obtain ⟨v, h1, h2⟩ := E.at_ i z h
      refine ⟨v, h1, h2.grow e1 fun a ea hz hi => ?_⟩
      obtain ⟨b, o, eb, _, _, hb⟩ := h2.there hz
      rw [ea] at eb
      cases eb
      have q := E.ne k i x z e hk h cx hz
      rw [hs, h1, ea] at q
      have ap : a ≠ p := fun w => q (by rw [w])
      exact ⟨fr a (by rw [hb]; exact fun z => nomatch z) hi, (e3 a o ap hb).trans hb.symm⟩
  · have cell : ∀ {m u}, (env.set k (some y))[m]? = some (some u) → isCell u = true → ∃ t, env[m]? = some (some t) ∧ isCell t = true := fun {m u} h c => by
      by_cases e : k = m
      · subst e
        exact ⟨x, hk, cx⟩
      · rw [List.getElem?_set_ne e] at h
        exact ⟨u, h, c⟩
    obtain ⟨t, ht, ct⟩ := cell hi cu
    obtain ⟨t', ht', ct'⟩ := cell hj cw
    exact E.ne i j t t' hij ht ht' ct ct'
/-- D, made on the way, is nobody's -/
theorem EnvI.guard (E : EnvI K F I0 I σ H env) {D : Addr} {o : HO} (hD : H D = none) : EnvI K (upd F D o) I0 I σ (upd H D o) env :=
  ⟨E.fh.upd2, E.oi, E.ih.trans (Ex.new hD), fun a h1 h2 => by
    by_cases z : a = D
    · subst z
      exact E.ih.back hD
    · rw [upd_ne z] at h1
      exact E.fr a h1 h2, E.len, fun i x h => by
    obtain ⟨v, h1, h2⟩ := E.at_ i x h
    refine ⟨v, h1, ?_⟩
    cases x with
    | dat d => exact h2
    | lst a ds =>
      obtain ⟨rfl, hf, hi, xs, hh, hd⟩ := h2
      have z : a ≠ D := ne_of_none hh hD
      exact ⟨rfl, by rw [upd_ne z]; exact hf, hi, xs, by rw [upd_ne z]; exact hh, hd⟩
    | dic a ds =>
      obtain ⟨rfl, hf, hi, hh⟩ := h2
      have z : a ≠ D := ne_of_none hh hD
      exact ⟨rfl, by rw [upd_ne z]; exact hf, hi, by rw [upd_ne z]; exact hh⟩
    | prs p n =>
      obtain ⟨rfl, hf, hi, xs, hh, hp⟩ := h2
      have z : p ≠ D := ne_of_none hh hD
      exact ⟨rfl, by rw [upd_ne z]; exact hf, hi, xs, by rw [upd_ne z]; exact hh, hp⟩
    | seq ns => exact h2, E.ne⟩
/-- what stands at D may change -/
theorem EnvI.guardPut {D : Addr} {o o' : HO} (E : EnvI K (upd F D o) I0 I σ H env) (h0 : I0 D = none) : EnvI K (upd F D o') I0 I σ (upd H D o') env := by
  have hI : I D = none := E.fr D (by rw [upd_same]; exact fun z => nomatch z) h0
  refine ⟨fun a u h => ?_, E.oi, E.ih.cell hI, fun a h1 h2 => ?_, E.len, fun i x h => ?_, E.ne⟩
  · by_cases z : a = D
    · subst z
      rw [upd_same] at h ⊢
      exact h
    · rw [upd_ne z] at h ⊢
      exact E.fh a u (by rw [upd_ne z]; exact h)
  · by_cases z : a = D
    · subst z
      exact hI
    · rw [upd_ne z] at h1
      exact E.fr a (by rw [upd_ne z]; exact h1) h2
  · obtain ⟨v, h1, h2⟩ := E.at_ i x h
    refine ⟨v, h1, ?_⟩
    have off : ∀ a, (upd F D o) a = none → a ≠ D := fun a q z => by
      rw [z, upd_same] at q
      cases q
    cases x with
    | dat d => exact h2
    | lst a ds =>
      obtain ⟨rfl, hf, hi, xs, hh, hd⟩ := h2
      have z := off a hf
      exact ⟨rfl, by rw [upd_ne z] at hf ⊢; exact hf, hi, xs, by rw [upd_ne z]; exact hh, hd⟩
    | dic a ds =>
      obtain ⟨rfl, hf, hi, hh⟩ := h2
      have z := off a hf
      exact ⟨rfl, by rw [upd_ne z] at hf ⊢; exact hf, hi, by rw [upd_ne z]; exact hh⟩
    | prs p n =>
      obtain ⟨rfl, hf, hi, xs, hh, hp⟩ := h2
      have z := off p hf
      exact ⟨rfl, by rw [upd_ne z] at hf ⊢; exact hf, hi, xs, by rw [upd_ne z]; exact hh, hp⟩
    | seq ns => exact h2
/-- what was guarded becomes data -/
theorem EnvI.unguard {D : Addr} {o : HO} (E : EnvI K (upd F D o) I0 I σ H env) (hF : F D = none) (h0 : I0 D = none) : I D = none ∧ H D = some o ∧ EnvI K F I0 (upd I D o) σ H env := by
  have hI : I D = none := E.fr D (by rw [upd_same]; exact fun z => nomatch z) h0
  have hH : H D = some o := E.fh D o upd_same
  refine ⟨hI, hH, fun a u h => E.fh a u (by rw [upd_ne (ne_of_none h hF)]; exact h), E.oi.trans (Ex.new hI), fun a u h => ?_, fun a h1 h2 => ?_, E.len, fun i x h => ?_, E.ne⟩
  · by_cases z : a = D
    · subst z
      rw [upd_same] at h
      exact hH.trans h
    · rw [upd_ne z] at h
      exact E.ih a u h
  · have z : a ≠ D := fun z => h1 (z ▸ hF)
    rw [upd_ne z]
    exact E.fr a (by rw [upd_ne z]; exact h1) h2
  · obtain ⟨v, h1, h2⟩ := E.at_ i x h
    refine ⟨v, h1, ?_⟩
    have off : ∀ a, (upd F D o) a = none → a ≠ D := fun a q z => by
      rw [z, upd_same] at q
      cases q
    have e1 : Ex I (upd I D o) := Ex.new hI
    cases x with
    | dat d => exact dp_mono e1 h2
    | lst a ds =>
      obtain ⟨rfl, hf, hi, xs, hh, hd⟩ := h2
      have z := off a hf
      exact ⟨rfl, by rw [upd_ne z] at hf; exact hf, by rw [upd_ne z]; exact hi, xs, hh, dpA_mono e1 hd⟩
    | dic a ds =>
      obtain ⟨rfl, hf, hi, hh⟩ := h2
      have z := off a hf
      exact ⟨rfl, by rw [upd_ne z] at hf; exact hf, by rw [upd_ne z]; exact hi, hh⟩
    | prs p n =>
      obtain ⟨rfl, hf, hi, xs, hh, hp⟩ := h2
      have z := off p hf
      exact ⟨rfl, by rw [upd_ne z] at hf; exact hf, by rw [upd_ne z]; exact hi, xs, hh, hp⟩
    | seq ns =>
      obtain ⟨a, rfl, hs⟩ := h2
      exact ⟨a, rfl, e1.l hs⟩
/-- a slot gets a cell that a call has made -/
theorem EnvI.setNew {I1 H1 : Hp} (E1 : EnvI K F I0 I1 σ H1 env) (E2 : EnvI K F I0 I σ H env) {D : Addr} {x : Val} (i : Nat) (hD : H1 D = none) (hx : VOk K F I H (.ref D) x) : EnvI K F I0 I (σ.set i (some (.ref D))) H (env.set i (some x)) := by
  refine ⟨E2.fh, E2.oi, E2.ih, E2.fr, by rw [List.length_set, List.length_set, E2.len], fun j y h => ?_, fun j l y z hjl hj hl cy cz => ?_⟩
  · by_cases e : i = j
    · subst e
      have hk : i < env.length := by
        have := (List.getElem?_eq_some_iff.mp h).1
        simpa using this
      rw [List.getElem?_set_self hk] at h
      cases h
      exact ⟨.ref D, List.getElem?_set_self (by rw [← E2.len]; exact hk), hx⟩
    · rw [List.getElem?_set_ne e] at h
      obtain ⟨w, h1, h2⟩ := E2.at_ j y h
      exact ⟨w, by rw [List.getElem?_set_ne e]; exact h1, h2⟩
  · have other : ∀ {m u}, i ≠ m → (env.set i (some x))[m]? = some (some u) → isCell u = true → (σ.set i (some (.ref D)))[m]? ≠ some (some (.ref D)) := fun {m u} km h c => by
      rw [List.getElem?_set_ne km] at h ⊢
      obtain ⟨w, h1, h2⟩ := E1.at_ m u h
      obtain ⟨a, o', ea, _, _, ha⟩ := h2.there c
      rw [h1, ea]
      intro q
      cases q
      rw [hD] at ha
      cases ha
    have self : ∀ {m u}, i = m → (env.set i (some x))[m]? = some (some u) → (σ.set i (some (.ref D)))[m]? = some (some (.ref D)) := fun {m u} km h => by
      subst km
      have hk : i < env.length := by
        have := (List.getElem?_eq_some_iff.mp h).1
        simpa using this
      exact List.getElem?_set_self (by rw [← E2.len]; exact hk)
    by_cases ei : i = j
    · rw [self ei hj]
      have ej : i ≠ l := fun e => hjl (ei.symm.trans e)
      exact fun q => other ej hl cz q.symm
    · by_cases ej : i = l
      · rw [self ej hl]
        exact other ei hj cy
      · rw [List.getElem?_set_ne ei] at hj ⊢
        rw [List.getElem?_set_ne ej] at hl ⊢
        exact E2.ne j l y z hjl hj hl cy cz
/-- what a slot's cell is said to be may be said otherwise -/
theorem EnvI.recell (E : EnvI K F I0 I σ H env) {k : Nat} {x y : Val} (hk : env[k]? = some (some x)) (cx : isCell x = true) (h : ∀ v, VOk K F I H v x → VOk K F I H v y) : EnvI K F I0 I σ H (env.set k (some y)) := by
  have kl : k < env.length := (List.getElem?_eq_some_iff.mp hk).1
  refine ⟨E.fh, E.oi, E.ih, E.fr, by rw [List.length_set, E.len], fun i z q => ?_, fun i j u w hij hi hj cu cw => ?_⟩
  · by_cases e : k = i
    · subst e
      rw [List.getElem?_set_self kl] at q
      cases q
      obtain ⟨v, hs, hv⟩ := E.at_ k _ hk
      exact ⟨v, hs, h v hv⟩
    · rw [List.getElem?_set_ne e] at q
      exact E.at_ i z q
  · have cell : ∀ {m u}, (env.set k (some y))[m]? = some (some u) → isCell u = true → ∃ t, env[m]? = some (some t) ∧ isCell t = true := fun {m u} q c => by
      by_cases e : k = m
      · subst e
        exact ⟨x, hk, cx⟩
      · rw [List.getElem?_set_ne e] at q
        exact ⟨u, q, c⟩
    obtain ⟨t, ht, ct⟩ := cell hi cu
    obtain ⟨t', ht', ct'⟩ := cell hj cw
    exact E.ne i j t t' hij ht ht' ct ct'
theorem EnvI.openP (E : EnvI K F I0 I σ H env) {k n : Nat} {p : Addr} (hk : env[k]? = some (some (.prs p n))) : ∃ a b c : Int, PurseOk [.int a, .int b, .int c] n ∧ EnvI K F I0 I σ H (env.set k (some (.lst p [.int a, .int b, .int c]))) := by
  obtain ⟨v, hs, rfl, hF, hI, xs, hH, hp⟩ := E.at_ k _ hk
  obtain ⟨a, b, c, e, hr⟩ := id hp
  subst e
  refine ⟨a, b, c, hp, E.recell hk rfl fun w hw => ?_⟩
  obtain ⟨rfl, h1, h2, ys, h3, _⟩ := hw
  exact ⟨rfl, h1, h2, _, hH, .cons (.int _) (.cons (.int _) (.cons (.int _) .nil))⟩
theorem EnvI.closeP (E : EnvI K F I0 I σ H env) {k n : Nat} {p : Addr} {a b c : Int} (hk : env[k]? = some (some (.lst p [.int a, .int b, .int c]))) (h : PurseOk [.int a, .int b, .int c] n) : EnvI K F I0 I σ H (env.set k (some (.prs p n))) :=
  E.recell hk rfl fun w hw => by
    obtain ⟨rfl, h1, h2, ys, h3, hd⟩ := hw
    refine ⟨rfl, h1, h2, ys, h3, ?_⟩
    cases hd with
    | cons d1 hd =>
      cases hd with
      | cons d2 hd =>
        cases hd with
        | cons d3 hd =>
          cases hd
          rw [dp_int d1, dp_int d2, dp_int d3]
          exact h
/-- the purse may do with less -/
theorem EnvI.less (E : EnvI K F I0 I σ H env) {k n m : Nat} {p : Addr} (hk : env[k]? = some (some (.prs p n))) (hm : m ≤ n) : EnvI K F I0 I σ H (env.set k (some (.prs p m))) := by
  have kl : k < env.length := (List.getElem?_eq_some_iff.mp hk).1
  refine ⟨E.fh, E.oi, E.ih, E.fr, by rw [List.length_set, E.len], fun i z h => ?_, fun i j u w hij hi hj cu cw => ?_⟩
  · by_cases e : k = i
    · subst e
      rw [List.getElem?_set_self kl] at h
      cases h
      obtain ⟨v, hs, rfl, hF, hI, xs, hH, hp⟩ := E.at_ k _ hk
      exact ⟨_, hs, rfl, hF, hI, xs, hH, hp.less hm⟩
    · rw [List.getElem?_set_ne e] at h
      exact E.at_ i z h
  · have cell : ∀ {q u}, (env.set k (some (.prs p m)))[q]? = some (some u) → isCell u = true → ∃ t, env[q]? = some (some t) ∧ isCell t = true := fun {q u} h c => by
      by_cases e : k = q
      · subst e
        exact ⟨_, hk, rfl⟩
      · rw [List.getElem?_set_ne e] at h
        exact ⟨u, h, c⟩
    obtain ⟨t, ht, ct⟩ := cell hi cu
    obtain ⟨t', ht', ct'⟩ := cell hj cw
    exact E.ne i j t t' hij ht ht' ct ct'
/-! ### slots forgotten -/
def wipeE (e : Env) : List Nat → Env
  | [] => e
  | v :: vs => (wipeE e vs).set v none
theorem wipeE_length (e : Env) : ∀ vs : List Nat, (wipeE e vs).length = e.length
  | [] => rfl
  | v :: vs => by unfold wipeE; rw [List.length_set, wipeE_length e vs]
theorem wipeE_some {e : Env} {i : Nat} {x : Val} : ∀ {vs : List Nat}, (wipeE e vs)[i]? = some (some x) → e[i]? = some (some x) ∧ i ∉ vs
  | [], h => ⟨h, by simp⟩
  | v :: vs, h => by
    unfold wipeE at h
    by_cases hi : v = i
    · subst hi
      by_cases hv : v < (wipeE e vs).length
      · rw [List.getElem?_set_self hv] at h; cases h
      · rw [List.getElem?_eq_none (by simpa using hv)] at h; cases h
    · rw [List.getElem?_set_ne hi] at h
      obtain ⟨h1, h2⟩ := wipeE_some h
      exact ⟨h1, by simp only [List.mem_cons, not_or]; exact ⟨fun e => hi e.symm, h2⟩⟩
theorem wipe_off (σ : L2.St) {i : Nat} : ∀ {vs : List Nat}, i ∉ vs → (wipe σ vs)[i]? = σ[i]?
  | [], _ => rfl
  | v :: vs, h => by
    simp only [List.mem_cons, not_or] at h
    unfold wipe
    rw [List.getElem?_set_ne (fun e => h.1 e.symm)]
    exact wipe_off σ h.2
theorem EnvI.wiped (E : EnvI K F I0 I σ H env) (vs : List Nat) : EnvI K F I0 I (wipe σ vs) H (wipeE env vs) :=
  ⟨E.fh, E.oi, E.ih, E.fr, by rw [wipeE_length, wipe_length]; exact E.len, fun i x h => by
    obtain ⟨h1, h2⟩ := wipeE_some h
    obtain ⟨v, h3, h4⟩ := E.at_ i x h1
    exact ⟨v, (wipe_off σ h2).trans h3, h4⟩, fun i j x y hij hi hj cx cy => by
    obtain ⟨h1, h2⟩ := wipeE_some hi
    obtain ⟨h3, h4⟩ := wipeE_some hj
    rw [wipe_off σ h2, wipe_off σ h4]
    exact E.ne i j x y hij h1 h3 cx cy⟩
theorem EnvI.unwiped {vs : List Nat} (E : EnvI K F I0 I (wipe σ vs) H env) : EnvI K F I0 I σ H env :=
  ⟨E.fh, E.oi, E.ih, E.fr, by rw [E.len, wipe_length], fun i x h => by
    obtain ⟨v, h3, h4⟩ := E.at_ i x h
    exact ⟨v, (wipe_some h3).1, h4⟩, fun i j x y hij hi hj cx cy => by
    obtain ⟨v, h3, _⟩ := E.at_ i x hi
    obtain ⟨w, h4, _⟩ := E.at_ j y hj
    have q := E.ne i j x y hij hi hj cx cy
    rw [h3, h4] at q
    rw [(wipe_some h3).1, (wipe_some h4).1]
    exact q⟩
end
end Lw

set_option Elab.async false
set_option linter.all false
set_option autoImplicit false
set_option maxRecDepth 100000
set_option maxHeartbeats 2000000
namespace Lw
open PySem PySem.Spec PyProof.Rows L2

/-! ### judgements -/
/-- te gives data d and leaves env', as P says -/
def EvE (K : PySem.W.Frag) (te : TE) (env : Env) (P : PyData → Env → Prop) : Prop :=
  ∀ (F I0 I : Hp) (σ : L2.St) (H : Hp), EnvI K F I0 I σ H env → ∀ Q : VK,
    (∀ (v : V) (I' H' : Hp) (d : PyData) (env' : Env), EnvI K F I0 I' σ H' env' → Ex I I' → Dq K I' v d → P d env' → Q v H') → te σ H Q
def EvA (K : PySem.W.Frag) (ta : TA) (env : Env) (P : List PyData → Env → Prop) : Prop :=
  ∀ (F I0 I : Hp) (σ : L2.St) (H : Hp), EnvI K F I0 I σ H env → ∀ Q : List V → Hp → Prop,
    (∀ (vs : List V) (I' H' : Hp) (ds : List PyData) (env' : Env), EnvI K F I0 I' σ H' env' → Ex I I' → DqAll K I' vs ds → P ds env' → Q vs H') → ta σ H Q
def EvT (K : PySem.W.Frag) (tt : TT) (env : Env) (P : Bool → Env → Prop) : Prop :=
  ∀ (F I0 I : Hp) (σ : L2.St) (H : Hp), EnvI K F I0 I σ H env → ∀ Q : Bool → Hp → Prop,
    (∀ (I' H' : Hp) (b : Bool) (env' : Env), EnvI K F I0 I' σ H' env' → Ex I I' → P b env' → Q b H') → tt σ H Q
/-- pure: just d, env as it was -/
abbrev Is {α : Type} (env : Env) (d : α) : α → Env → Prop := fun d' e => d' = d ∧ e = env
abbrev EvP (K : PySem.W.Frag) (te : TE) (env : Env) (d : PyData) : Prop := EvE K te env (Is env d)
abbrev EvPA (K : PySem.W.Frag) (ta : TA) (env : Env) (ds : List PyData) : Prop := EvA K ta env (Is env ds)
abbrev EvPT (K : PySem.W.Frag) (tt : TT) (env : Env) (b : Bool) : Prop := EvT K tt env (Is env b)

/-- an operator by values: what it gives is old or new -/
def RD (K : PySem.W.Frag) (r : R2) (a b c : PyData) : Prop := ∀ (I H : Hp) (x y : V), Ex I H → Dq K I x a → Dq K I y b → ∀ Q : VK,
  (∀ v, Dq K I v c → Q v H) → (∀ (p : Addr) (o : HO), H p = none → Dq K (upd I p o) (.ref p) c → Q (.ref p) (upd H p o)) → r x y H Q
def RU (K : PySem.W.Frag) (r : V → Hp → VK → Prop) (a c : PyData) : Prop := ∀ (I H : Hp) (x : V), Ex I H → Dq K I x a → ∀ Q : VK,
  (∀ v, Dq K I v c → Q v H) → (∀ (p : Addr) (o : HO), H p = none → Dq K (upd I p o) (.ref p) c → Q (.ref p) (upd H p o)) → r x H Q
/-- a call by values -/
def RC (K : PySem.W.Frag) (r : List V → Hp → VK → Prop) (as : List PyData) (c : PyData) : Prop := ∀ (I H : Hp) (xs : List V), Ex I H → DqAll K I xs as → ∀ Q : VK,
  (∀ v, Dq K I v c → Q v H) → (∀ (p : Addr) (o : HO), H p = none → Dq K (upd I p o) (.ref p) c → Q (.ref p) (upd H p o)) → r xs H Q
/-- a method by values -/
def RM (K : PySem.W.Frag) (r : V → List V → Hp → VK → Prop) (a : PyData) (as : List PyData) (c : PyData) : Prop := ∀ (I H : Hp) (x : V) (xs : List V), Ex I H → Dq K I x a → DqAll K I xs as → ∀ Q : VK,
  (∀ v, Dq K I v c → Q v H) → (∀ (p : Addr) (o : HO), H p = none → Dq K (upd I p o) (.ref p) c → Q (.ref p) (upd H p o)) → r x xs H Q

section
variable {K : PySem.W.Frag} {te ta tb : TE} {tt tu : TT} {tr : TA} {env : Env} {d a b c : PyData} {as : List PyData}
theorem EvE.imp {P P' : PyData → Env → Prop} (h : EvE K te env P) (k : ∀ d e, P d e → P' d e) : EvE K te env P' :=
  fun F I0 I σ H E Q q => h F I0 I σ H E Q fun v I' H' d e E' x hd hp => q v I' H' d e E' x hd (k d e hp)
theorem EvT.imp {P P' : Bool → Env → Prop} (h : EvT K tt env P) (k : ∀ d e, P d e → P' d e) : EvT K tt env P' :=
  fun F I0 I σ H E Q q => h F I0 I σ H E Q fun I' H' d e E' x hp => q I' H' d e E' x (k d e hp)
theorem EvA.imp {P P' : List PyData → Env → Prop} (h : EvA K tr env P) (k : ∀ d e, P d e → P' d e) : EvA K tr env P' :=
  fun F I0 I σ H E Q q => h F I0 I σ H E Q fun v I' H' d e E' x hd hp => q v I' H' d e E' x hd (k d e hp)
theorem ep_is (h : EvP K te env a) (e : a = b) : EvP K te env b := by rw [← e]; exact h
theorem et_is {p q : Bool} (h : EvPT K tt env p) (e : p = q) : EvPT K tt env q := by rw [← e]; exact h

/-! ### expressions, pure -/
theorem ep_var {i : Nat} (h : env[i]? = some (some (.dat d))) : EvP K (tVar i) env d := fun F I0 I σ H E Q q => by
  obtain ⟨v, h1, h2⟩ := E.at_ i _ h
  exact ⟨v, h1, q v I H d env E (Ex.refl I) h2 ⟨rfl, rfl⟩⟩
theorem ep_c {v : V} (h : ∀ I, Dq K I v d) : EvP K (tC v) env d := fun F I0 I σ H E Q q => q v I H d env E (Ex.refl I) (h I) ⟨rfl, rfl⟩
theorem ep_int {i : Int} : EvP K (tC (.int i)) env (.int i) := ep_c fun _ => .int i
theorem ep_str {x : Str} : EvP K (tC (.str x)) env (.str x) := ep_c fun _ => .str x
theorem ep_bl {p : Bool} : EvP K (tC (.bl p)) env (.bool p) := ep_c fun _ => .bl p
theorem ep_non : EvP K (tC .non) env .none := ep_c fun _ => .non
/-- any two parts, then an operator -/
theorem ev_op {r : R2} {Pa : PyData → Env → Prop} {P : PyData → Env → Prop} (ha : EvE K ta env Pa)
    (hb : ∀ a e, Pa a e → EvE K tb e fun b e' => ∃ c, RD K r a b c ∧ P c e') : EvE K (tOp r ta tb) env P := fun F I0 I σ H E Q q =>
  ha F I0 I σ H E _ fun x I1 H1 a e1 E1 x1 hx pa => hb a e1 pa F I0 I1 σ H1 E1 _ fun y I2 H2 b e2 E2 x2 hy ⟨c, hr, pc⟩ =>
    hr I2 H2 x y E2.ih (dp_mono x2 hx) hy Q (fun v hv => q v I2 H2 c e2 E2 (x1.trans x2) hv pc) fun p o hp hv =>
      q (.ref p) (upd I2 p o) (upd H2 p o) c e2 (E2.newD hp) ((x1.trans x2).trans (Ex.new (E2.ih.back hp))) hv pc
theorem ep_op {r : R2} (ha : EvP K ta env a) (hb : EvP K tb env b) (hr : RD K r a b c) : EvP K (tOp r ta tb) env c :=
  ev_op ha fun _ _ ⟨e1, e2⟩ => by
    subst e1 e2
    exact hb.imp fun _ _ ⟨e3, e4⟩ => by
      subst e3 e4
      exact ⟨c, hr, rfl, rfl⟩
theorem ev_un {r : V → Hp → VK → Prop} {Pa : PyData → Env → Prop} {P : PyData → Env → Prop} (ha : EvE K ta env fun a e => ∃ c, RU K r a c ∧ P c e) : EvE K (tUn r ta) env P := fun F I0 I σ H E Q q =>
  ha F I0 I σ H E _ fun x I1 H1 a e1 E1 x1 hx ⟨c, hr, pc⟩ =>
    hr I1 H1 x E1.ih hx Q (fun v hv => q v I1 H1 c e1 E1 x1 hv pc) fun p o hp hv => q (.ref p) (upd I1 p o) (upd H1 p o) c e1 (E1.newD hp) (x1.trans (Ex.new (E1.ih.back hp))) hv pc
theorem ep_un {r : V → Hp → VK → Prop} (ha : EvP K ta env a) (hr : RU K r a c) : EvP K (tUn r ta) env c :=
  ev_un (Pa := fun _ _ => True) (ha.imp fun _ _ ⟨e1, e2⟩ => by subst e1 e2; exact ⟨c, hr, rfl, rfl⟩)
theorem ea_nil : EvPA K tNil env [] := fun F I0 I σ H E Q q => q [] I H [] env E (Ex.refl I) .nil ⟨rfl, rfl⟩
theorem ev_cons {Pa : PyData → Env → Prop} {P : List PyData → Env → Prop} (ha : EvE K ta env Pa) (hr : ∀ a e, Pa a e → EvA K tr e fun as e' => P (a :: as) e') : EvA K (tCons ta tr) env P := fun F I0 I σ H E Q q =>
  ha F I0 I σ H E _ fun x I1 H1 a e1 E1 x1 hx pa => hr a e1 pa F I0 I1 σ H1 E1 _ fun xs I2 H2 as e2 E2 x2 hxs pas =>
    q (x :: xs) I2 H2 (a :: as) e2 E2 (x1.trans x2) (.cons (dp_mono x2 hx) hxs) pas
theorem ea_cons (ha : EvP K ta env a) (hr : EvPA K tr env as) : EvPA K (tCons ta tr) env (a :: as) :=
  ev_cons ha fun _ _ ⟨e1, e2⟩ => by
    subst e1 e2
    exact hr.imp fun _ _ ⟨e3, e4⟩ => by subst e3 e4; exact ⟨rfl, rfl⟩
theorem ev_tup {Pa : List PyData → Env → Prop} {P : PyData → Env → Prop} (h : EvA K tr env Pa) (k : ∀ ds e, Pa ds e → ds.length ≤ 100000 ∧ P (.tuple ds) e) : EvE K (tTup tr) env P := fun F I0 I σ H E Q q =>
  h F I0 I σ H E _ fun xs I1 H1 ds e1 E1 x1 hxs pa => by
    obtain ⟨hl, hp⟩ := k ds e1 pa
    refine ⟨Nat.le_trans (by rw [dpA_len hxs]; exact hl) (by decide), fun p np => ?_⟩
    have x2 : Ex I1 (upd I1 p (.tup xs)) := Ex.new (E1.ih.back np)
    exact q (.ref p) (upd I1 p (.tup xs)) _ (.tuple ds) e1 (E1.newD np) (x1.trans x2) (.tup (Or.inl (Or.inl upd_same)) (dpA_mono x2 hxs)) hp
theorem ep_tup (h : EvPA K tr env as) (hl : as.length ≤ 100000) : EvP K (tTup tr) env (.tuple as) :=
  ev_tup h fun _ _ ⟨e1, e2⟩ => by subst e1 e2; exact ⟨hl, rfl, rfl⟩
theorem ev_lst {Pa : List PyData → Env → Prop} {P : PyData → Env → Prop} (h : EvA K tr env Pa) (k : ∀ ds e, Pa ds e → ds.length ≤ 100000 ∧ P (.list ds) e) : EvE K (tLst tr) env P := fun F I0 I σ H E Q q =>
  h F I0 I σ H E _ fun xs I1 H1 ds e1 E1 x1 hxs pa => by
    obtain ⟨hl, hp⟩ := k ds e1 pa
    refine ⟨Nat.le_trans (by rw [dpA_len hxs]; exact hl) (by decide), fun p np => ?_⟩
    have x2 : Ex I1 (upd I1 p (.lst xs)) := Ex.new (E1.ih.back np)
    exact q (.ref p) (upd I1 p (.lst xs)) _ (.list ds) e1 (E1.newD np) (x1.trans x2) (.lst upd_same (dpA_mono x2 hxs)) hp
theorem ep_lst (h : EvPA K tr env as) (hl : as.length ≤ 100000) : EvP K (tLst tr) env (.list as) :=
  ev_lst h fun _ _ ⟨e1, e2⟩ => by subst e1 e2; exact ⟨hl, rfl, rfl⟩
theorem ev_cb {r : List V → Hp → VK → Prop} {P : PyData → Env → Prop} (h : EvA K tr env fun as e => ∃ c, RC K r as c ∧ P c e) : EvE K (tCB r tr) env P := fun F I0 I σ H E Q q =>
  h F I0 I σ H E _ fun xs I1 H1 as e1 E1 x1 hx ⟨c, hr, pc⟩ =>
    hr I1 H1 xs E1.ih hx Q (fun v hv => q v I1 H1 c e1 E1 x1 hv pc) fun p o hp hv => q (.ref p) (upd I1 p o) (upd H1 p o) c e1 (E1.newD hp) (x1.trans (Ex.new (E1.ih.back hp))) hv pc
theorem ep_cb {r : List V → Hp → VK → Prop} (h : EvPA K tr env as) (hr : RC K r as c) : EvP K (tCB r tr) env c :=
  ev_cb (h.imp fun _ _ ⟨e1, e2⟩ => by subst e1 e2; exact ⟨c, hr, rfl, rfl⟩)

/-! ### truth -/
theorem ev_andV {P : PyData → Env → Prop} (ha : EvE K ta env fun x e => ∃ p, x = .bool p ∧ if p = true then EvE K tb e P else P (.bool false) e) : EvE K (tAndV ta tb) env P := fun F I0 I σ H E Q q =>
  ha F I0 I σ H E _ fun x I1 H1 a e1 E1 x1 hx ⟨p, ea, hp⟩ => by
    subst ea
    have ex := dp_bl hx
    subst ex
    refine ⟨p, rfl, ?_⟩
    cases p with
    | true =>
      rw [if_pos rfl] at hp ⊢
      exact hp F I0 I1 σ H1 E1 Q fun v I2 H2 d e2 E2 x2 => q v I2 H2 d e2 E2 (x1.trans x2)
    | false =>
      rw [if_neg Bool.false_ne_true] at hp ⊢
      exact q (.bl false) I1 H1 _ e1 E1 x1 (.bl false) hp
theorem ep_andV {p q : Bool} (ha : EvP K ta env (.bool p)) (hb : p = true → EvP K tb env (.bool q)) : EvP K (tAndV ta tb) env (.bool (p && q)) :=
  ev_andV (ha.imp fun _ _ ⟨e1, e2⟩ => by
    subst e1 e2
    refine ⟨p, rfl, ?_⟩
    cases p with
    | true => rw [if_pos rfl]; exact hb rfl
    | false => rw [if_neg Bool.false_ne_true]; exact ⟨rfl, rfl⟩)
theorem ev_orV {P : PyData → Env → Prop} (ha : EvE K ta env fun x e => ∃ p, x = .bool p ∧ if p = true then P (.bool true) e else EvE K tb e P) : EvE K (tOrV ta tb) env P := fun F I0 I σ H E Q q =>
  ha F I0 I σ H E _ fun x I1 H1 a e1 E1 x1 hx ⟨p, ea, hp⟩ => by
    subst ea
    have ex := dp_bl hx
    subst ex
    refine ⟨p, rfl, ?_⟩
    cases p with
    | false =>
      rw [if_neg Bool.false_ne_true] at hp ⊢
      exact hp F I0 I1 σ H1 E1 Q fun v I2 H2 d e2 E2 x2 => q v I2 H2 d e2 E2 (x1.trans x2)
    | true =>
      rw [if_pos rfl] at hp ⊢
      exact q (.bl true) I1 H1 _ e1 E1 x1 (.bl true) hp
theorem ep_orV {p q : Bool} (ha : EvP K ta env (.bool p)) (hb : p = false → EvP K tb env (.bool q)) : EvP K (tOrV ta tb) env (.bool (p || q)) :=
  ev_orV (ha.imp fun _ _ ⟨e1, e2⟩ => by
    subst e1 e2
    refine ⟨p, rfl, ?_⟩
    cases p with
    | false => rw [if_neg Bool.false_ne_true]; exact hb rfl
    | true => rw [if_pos rfl]; exact ⟨rfl, rfl⟩)
theorem ep_notV {p : Bool} (ha : EvP K ta env (.bool p)) : EvP K (tNotV ta) env (.bool (!p)) := fun F I0 I σ H E Q q =>
  ha F I0 I σ H E _ fun x I1 H1 a e1 E1 x1 hx ⟨ea, ee⟩ => by
    subst ea ee
    have ex := dp_bl hx
    subst ex
    exact ⟨p, rfl, q (.bl (!p)) I1 H1 _ e1 E1 x1 (.bl _) ⟨rfl, rfl⟩⟩

/-! ### tests -/
theorem et_test {P : Bool → Env → Prop} (h : EvE K te env fun d e => ∃ p, d = .bool p ∧ P p e) : EvT K (tTest te) env P := fun F I0 I σ H E Q q =>
  h F I0 I σ H E _ fun x I1 H1 a e1 E1 x1 hx ⟨p, ea, hp⟩ => by
    subst ea
    exact ⟨p, dp_bl hx, q I1 H1 p e1 E1 x1 hp⟩
theorem et_b {P : Bool → Env → Prop} (h : EvE K te env fun d e => ∃ p, d = .bool p ∧ P p e) : EvT K (tB te) env P := fun F I0 I σ H E Q q =>
  h F I0 I σ H E _ fun x I1 H1 a e1 E1 x1 hx ⟨p, ea, hp⟩ => by
    subst ea
    exact ⟨p, dp_bl hx, q I1 H1 p e1 E1 x1 hp⟩
theorem ept_test {p : Bool} (h : EvP K te env (.bool p)) : EvPT K (tTest te) env p := et_test (h.imp fun _ _ ⟨e1, e2⟩ => ⟨p, e1, rfl, e2⟩)
theorem ept_b {p : Bool} (h : EvP K te env (.bool p)) : EvPT K (tB te) env p := et_b (h.imp fun _ _ ⟨e1, e2⟩ => ⟨p, e1, rfl, e2⟩)
theorem et_and {P : Bool → Env → Prop} (ha : EvT K tt env fun p e => if p = true then EvT K tu e P else P false e) : EvT K (tAnd tt tu) env P := fun F I0 I σ H E Q q =>
  ha F I0 I σ H E _ fun I1 H1 p e1 E1 x1 hp => by
    cases p with
    | true =>
      rw [if_pos rfl] at hp ⊢
      exact hp F I0 I1 σ H1 E1 Q fun I2 H2 d e2 E2 x2 => q I2 H2 d e2 E2 (x1.trans x2)
    | false =>
      rw [if_neg Bool.false_ne_true] at hp ⊢
      exact q I1 H1 _ e1 E1 x1 hp
theorem ept_and {p q : Bool} (ha : EvPT K tt env p) (hb : p = true → EvPT K tu env q) : EvPT K (tAnd tt tu) env (p && q) :=
  et_and (ha.imp fun p' e' hh => by
    rw [hh.1, hh.2]
    cases p with
    | true => rw [if_pos rfl]; exact hb rfl
    | false => rw [if_neg Bool.false_ne_true]; exact ⟨rfl, rfl⟩)
theorem et_or {P : Bool → Env → Prop} (ha : EvT K tt env fun p e => if p = true then P true e else EvT K tu e P) : EvT K (tOr tt tu) env P := fun F I0 I σ H E Q q =>
  ha F I0 I σ H E _ fun I1 H1 p e1 E1 x1 hp => by
    cases p with
    | false =>
      rw [if_neg Bool.false_ne_true] at hp ⊢
      exact hp F I0 I1 σ H1 E1 Q fun I2 H2 d e2 E2 x2 => q I2 H2 d e2 E2 (x1.trans x2)
    | true =>
      rw [if_pos rfl] at hp ⊢
      exact q I1 H1 _ e1 E1 x1 hp
theorem ept_or {p q : Bool} (ha : EvPT K tt env p) (hb : p = false → EvPT K tu env q) : EvPT K (tOr tt tu) env (p || q) :=
  et_or (ha.imp fun p' e' hh => by
    rw [hh.1, hh.2]
    cases p with
    | false => rw [if_neg Bool.false_ne_true]; exact hb rfl
    | true => rw [if_pos rfl]; exact ⟨rfl, rfl⟩)
theorem ept_not {p : Bool} (ha : EvPT K tt env p) : EvPT K (tNot tt) env (!p) := fun F I0 I σ H E Q q =>
  ha F I0 I σ H E _ fun I1 H1 p' e1 E1 x1 ⟨ea, ee⟩ => by
    subst ea ee
    exact q I1 H1 _ e1 E1 x1 ⟨rfl, rfl⟩
theorem ev_ifE {P : PyData → Env → Prop} (h : EvT K tt env fun p e => if p = true then EvE K ta e P else EvE K tb e P) : EvE K (tIf tt ta tb) env P := fun F I0 I σ H E Q q =>
  h F I0 I σ H E _ fun I1 H1 p e1 E1 x1 hp => by
    cases p with
    | true =>
      rw [if_pos rfl] at hp ⊢
      exact hp F I0 I1 σ H1 E1 Q fun v I2 H2 d e2 E2 x2 => q v I2 H2 d e2 E2 (x1.trans x2)
    | false =>
      rw [if_neg Bool.false_ne_true] at hp ⊢
      exact hp F I0 I1 σ H1 E1 Q fun v I2 H2 d e2 E2 x2 => q v I2 H2 d e2 E2 (x1.trans x2)

/-! ### operators -/
theorem rd_I0 {g : Int → Int → Int} {i j : Int} : RD K (rI0 fun i j => .int (g i j)) (.int i) (.int j) (.int (g i j)) := fun I H x y _ hx hy Q q _ => by
  cases dp_int hx
  cases dp_int hy
  exact ⟨i, j, rfl, rfl, q _ (.int _)⟩
theorem rd_IB {g : Int → Int → Bool} {i j : Int} : RD K (rI0 fun i j => .bl (g i j)) (.int i) (.int j) (.bool (g i j)) := fun I H x y _ hx hy Q q _ => by
  cases dp_int hx
  cases dp_int hy
  exact ⟨i, j, rfl, rfl, q _ (.bl _)⟩
theorem rd_I {C : Int → Int → Prop} {g : Int → Int → Int} {i j : Int} (hc : C i j) : RD K (rI C fun i j => .int (g i j)) (.int i) (.int j) (.int (g i j)) := fun I H x y _ hx hy Q q _ => by
  cases dp_int hx
  cases dp_int hy
  exact ⟨i, j, rfl, rfl, hc, q _ (.int _)⟩
theorem rd_eqD (sa : SeqAt.shaped a = true) (sb : SeqAt.shaped b = true) : RD K (rEqD K) a b (.bool (PyData.eqv a b)) := fun I H x y e hx hy Q q _ =>
  ⟨a, b, (dp_mono e hx).dp, (dp_mono e hy).dp, sa, sb, q _ (.bl _)⟩
theorem rd_neD (sa : SeqAt.shaped a = true) (sb : SeqAt.shaped b = true) : RD K (rNeD K) a b (.bool (!PyData.eqv a b)) := fun I H x y e hx hy Q q _ =>
  ⟨a, b, (dp_mono e hx).dp, (dp_mono e hy).dp, sa, sb, q _ (.bl _)⟩
theorem rd_eqI {i j : Int} : RD K rEq (.int i) (.int j) (.bool (decide (i = j))) := fun I H x y e hx hy Q q _ => by
  cases dp_int hx
  cases dp_int hy
  refine ⟨rfl, ?_⟩
  have z : decide (V.int i = V.int j) = decide (i = j) := by
    by_cases h : i = j
    · subst h
      simp
    · rw [decide_eq_false h, decide_eq_false fun q => h (V.int.inj q)]
  rw [z]
  exact q _ (.bl _)
theorem rd_neI {i j : Int} : RD K rNe (.int i) (.int j) (.bool (!decide (i = j))) := fun I H x y e hx hy Q q _ => by
  cases dp_int hx
  cases dp_int hy
  refine ⟨rfl, ?_⟩
  have z : decide (V.int i = V.int j) = decide (i = j) := by
    by_cases h : i = j
    · subst h
      simp
    · rw [decide_eq_false h, decide_eq_false fun q => h (V.int.inj q)]
  rw [z]
  exact q _ (.bl _)
def isNoneD : PyData → Bool
  | .none => true
  | _ => false
theorem rd_isN : RD K (fun x y H Q => y = .non ∧ Q (.bl (decide (x = .non))) H) a .none (.bool (isNoneD a)) := fun I H x y e hx hy Q q _ => by
  refine ⟨dp_non hy, ?_⟩
  cases hx <;> exact q _ (.bl _)
theorem rd_notN : RD K (fun x y H Q => y = .non ∧ Q (.bl (!decide (x = .non))) H) a .none (.bool (!isNoneD a)) := fun I H x y e hx hy Q q _ => by
  refine ⟨dp_non hy, ?_⟩
  cases hx <;> exact q _ (.bl _)
def toV : PyData → V
  | .none => .non
  | .bool b => .bl b
  | .int i => .int i
  | .str x => .str x
  | _ => .non
def flatD : PyData → Bool
  | .none | .bool _ | .int _ | .str _ => true
  | _ => false
theorem dp_flat {I : Hp} {v : V} (h : Dq K I v d) (f : flatD d = true) : v = toV d ∧ flatV v = true := by
  cases h with
  | non => exact ⟨rfl, rfl⟩
  | bl b => exact ⟨rfl, rfl⟩
  | int i => exact ⟨rfl, rfl⟩
  | str x => exact ⟨rfl, rfl⟩
  | lst _ _ => cases f
  | tup _ _ => cases f
theorem dpA_flat {I : Hp} : ∀ {vs : List V} {ds : List PyData}, DqAll K I vs ds → ds.all flatD = true → vs = ds.map toV ∧ vs.all flatV = true
  | _, [], h, _ => by cases h; exact ⟨rfl, rfl⟩
  | _, d :: ds, h, f => by
    cases h with
    | cons h1 h2 =>
      rw [List.all_cons, Bool.and_eq_true] at f
      obtain ⟨e1, f1⟩ := dp_flat h1 f.1
      obtain ⟨e2, f2⟩ := dpA_flat h2 f.2
      exact ⟨by rw [e1, e2]; rfl, by rw [List.all_cons, f1, f2]; rfl⟩
def seqOf : PyData → Option (List PyData)
  | .list ds | .tuple ds => some ds
  | _ => none
theorem dp_seq {I : Hp} {v : V} {ds : List PyData} (h : Dq K I v d) (f : seqOf d = some ds) : ∃ p xs, v = .ref p ∧ (SqL K I p xs ∨ SqT K I p xs) ∧ DqAll K I xs ds := by
  cases h with
  | non => cases f
  | bl b => cases f
  | int i => cases f
  | str x => cases f
  | lst h1 h2 => cases f; exact ⟨_, _, rfl, .inl (.inl (.inl h1)), h2⟩
  | tup h1 h2 => cases f; exact ⟨_, _, rfl, .inr h1, h2⟩
theorem rd_in {neg : Bool} {ds : List PyData} (hb : seqOf b = some ds) (ha : flatD a = true) (hf : ds.all flatD = true) : RD K (rIn K neg) a b (.bool (if neg then !inV (toV a) (ds.map toV) else inV (toV a) (ds.map toV))) := fun I H x y e hx hy Q q _ => by
  obtain ⟨p, xs, rfl, hs, hd⟩ := dp_seq hy hb
  obtain ⟨e1, f1⟩ := dp_flat hx ha
  obtain ⟨e2, f2⟩ := dpA_flat hd hf
  refine ⟨p, xs, rfl, ?_, f1, f2, ?_⟩
  · rcases hs with h | h
    · exact .inl (e.l h)
    · exact .inr (e.t h)
  · rw [e1, e2]
    exact q _ (.bl _)
theorem rd_ixT {ds : List PyData} {i : Int} (h : atI ds i = some c) : RD K (rIxT K) (.tuple ds) (.int i) c := fun I H x y e hx hy Q q _ => by
  obtain ⟨p, xs, rfl, hs, hd⟩ := dp_tup hx
  cases dp_int hy
  unfold atI at h
  cases hj : ixN ds.length i with
  | none => rw [hj] at h; cases h
  | some j =>
    rw [hj] at h
    have h' : ds[j]? = some c := h
    obtain ⟨v, hv, hvd⟩ := dpA_get hd h'
    refine ⟨p, xs, i, v, rfl, rfl, e.t hs, ?_, q v hvd⟩
    unfold atI
    rw [dpA_len hd, hj]
    exact hv
theorem rd_ixL {ds : List PyData} {i : Int} (h : atI ds i = some c) : RD K (rIxL K) (.list ds) (.int i) c := fun I H x y e hx hy Q q _ => by
  obtain ⟨p, xs, rfl, hs, hd⟩ := dp_lst hx
  cases dp_int hy
  unfold atI at h
  cases hj : ixN ds.length i with
  | none => rw [hj] at h; cases h
  | some j =>
    rw [hj] at h
    have h' : ds[j]? = some c := h
    obtain ⟨v, hv, hvd⟩ := dpA_get hd h'
    refine ⟨p, xs, i, v, rfl, rfl, e.l (.inl (.inl hs)), ?_, q v hvd⟩
    unfold atI
    rw [dpA_len hd, hj]
    exact hv
theorem rd_ixS {z : Str} {i : Int} {k : Nat} (hl : z.length ≤ 100000) (h : atI z.cps.toList i = some k) : RD K rIxS (.str z) (.int i) (.str ⟨#[k]⟩) := fun I H x y e hx hy Q q _ => by
  cases dp_str hx
  cases dp_int hy
  exact ⟨z, i, k, rfl, rfl, Nat.le_trans hl (by decide), h, q _ (.str _)⟩
theorem rd_ix {r : R2} (h : RD K (rIxL K) a b c ∨ RD K (rIxT K) a b c ∨ RD K rIxS a b c) : RD K (rIx K) a b c := fun I H x y e hx hy Q q q2 => by
  rcases h with h | h | h
  · exact .inl (h I H x y e hx hy Q q q2)
  · exact .inr (.inl (h I H x y e hx hy Q q q2))
  · exact .inr (.inr (h I H x y e hx hy Q q q2))
theorem rd_catT {ds es : List PyData} (hl : ds.length + es.length ≤ 100000) : RD K (rCatA K) (.tuple ds) (.tuple es) (.tuple (ds ++ es)) := fun I H x y e hx hy Q q q2 => by
  obtain ⟨p, xs, rfl, hs, hd⟩ := dp_tup hx
  obtain ⟨p', ys, rfl, hs', hd'⟩ := dp_tup hy
  refine ⟨p, p', xs, ys, rfl, rfl, e.t hs, e.t hs', Nat.le_trans (by rw [dpA_len hd, dpA_len hd']; exact hl) (by decide), fun z => ?_, fun _ z => ?_, fun _ _ np hp => ?_⟩
  · subst z
    have : ds = [] := by cases hd; rfl
    subst this
    exact q _ hy
  · subst z
    have : es = [] := by cases hd'; rfl
    subst this
    rw [List.append_nil] at q
    exact q _ hx
  · refine q2 _ _ hp (.tup (Or.inl (Or.inl upd_same)) (dpA_mono (Ex.new (e.back hp)) (dpA_app hd hd')))
theorem rd_inS {z : Str} {k : Nat} : RD K rInS (.str ⟨#[k]⟩) (.str z) (.bool (decide (k ∈ z.cps.toList))) := fun I H x y e hx hy Q q _ => by
  cases dp_str hx
  cases dp_str hy
  exact ⟨k, z, rfl, rfl, q _ (.bl _)⟩
theorem rd_addS {z u : Str} (hl : z.length + u.length ≤ 100000) : RD K (fun x y H Q => ∃ i j, x = .str i ∧ y = .str j ∧ i.length + j.length ≤ sizeLine ∧ Q (.str (i ++ j)) H) (.str z) (.str u) (.str (z ++ u)) := fun I H x y e hx hy Q q _ => by
  cases dp_str hx
  cases dp_str hy
  exact ⟨z, u, rfl, rfl, Nat.le_trans hl (by decide), q _ (.str _)⟩
end
end Lw

set_option Elab.async false
set_option linter.all false
set_option autoImplicit false
set_option maxRecDepth 100000
set_option maxHeartbeats 2000000
namespace Lw
open PySem PySem.Spec PyProof.Rows L2

theorem wipe_at (σ : L2.St) {i : Nat} : ∀ {vs : List Nat}, i ∈ vs → (wipe σ vs)[i]? = if i < σ.length then some none else none
  | [], h => by cases h
  | v :: vs, h => by
    unfold wipe
    by_cases hiv : v = i
    · subst hiv
      by_cases hl : v < σ.length
      · rw [List.getElem?_set_self (by rw [wipe_length]; exact hl), if_pos hl]
      · rw [List.getElem?_eq_none (by rw [List.length_set, wipe_length]; omega), if_neg hl]
    · rw [List.getElem?_set_ne hiv]
      rcases List.mem_cons.mp h with h | h
      · exact absurd h.symm hiv
      · exact wipe_at σ h
theorem wipe_eq {σ σ' : L2.St} {vs : List Nat} (hl : σ.length = σ'.length) (h : ∀ i, i ∉ vs → σ[i]? = σ'[i]?) : wipe σ vs = wipe σ' vs := by
  apply List.ext_getElem?
  intro i
  by_cases hi : i ∈ vs
  · rw [wipe_at σ hi, wipe_at σ' hi, hl]
  · rw [wipe_off σ hi, wipe_off σ' hi]
    exact h i hi
theorem wipe_idem (σ : L2.St) (vs : List Nat) : wipe (wipe σ vs) vs = wipe σ vs := wipe_eq (wipe_length σ vs) fun i hi => wipe_off σ hi
theorem wipe_set (σ : L2.St) {vs : List Nat} {i : Nat} (x : Option V) (hi : i ∈ vs) : wipe (σ.set i x) vs = wipe σ vs := wipe_eq (by rw [List.length_set]) fun j hj => List.getElem?_set_ne fun (e : i = j) => hj (by rw [← e]; exact hi)
theorem wipeE_at (e : Env) {i : Nat} : ∀ {vs : List Nat}, i ∈ vs → (wipeE e vs)[i]? = if i < e.length then some none else none
  | [], h => by cases h
  | v :: vs, h => by
    unfold wipeE
    by_cases hiv : v = i
    · subst hiv
      by_cases hl : v < e.length
      · rw [List.getElem?_set_self (by rw [wipeE_length]; exact hl), if_pos hl]
      · rw [List.getElem?_eq_none (by rw [List.length_set, wipeE_length]; omega), if_neg hl]
    · rw [List.getElem?_set_ne hiv]
      rcases List.mem_cons.mp h with h | h
      · exact absurd h.symm hiv
      · exact wipeE_at e h
theorem wipeE_off (e : Env) {i : Nat} : ∀ {vs : List Nat}, i ∉ vs → (wipeE e vs)[i]? = e[i]?
  | [], _ => rfl
  | v :: vs, h => by
    simp only [List.mem_cons, not_or] at h
    unfold wipeE
    rw [List.getElem?_set_ne (fun e => h.1 e.symm)]
    exact wipeE_off e h.2
theorem wipeE_idem (e : Env) (vs : List Nat) : wipeE (wipeE e vs) vs = wipeE e vs := by
  apply List.ext_getElem?
  intro i
  by_cases hi : i ∈ vs
  · rw [wipeE_at _ hi, wipeE_at e hi, wipeE_length]
  · rw [wipeE_off _ hi]
/-- the target stores to the block's own slots -/
def OwnG (g : TG) (vs : List Nat) : Prop := ∀ (W : L2.St) (x : V) (σ1 : L2.St) (H : Hp) (Q : L2.St → Hp → Prop), wipe σ1 vs = W → g x σ1 H (fun σ2 H2 => wipe σ2 vs = W → Q σ2 H2) → g x σ1 H fun σ2 H2 => wipe σ2 vs = W ∧ Q σ2 H2
def OwnGs (g : TGs) (vs : List Nat) : Prop := ∀ (W : L2.St) (xs : List V) (σ1 : L2.St) (H : Hp) (Q : L2.St → Hp → Prop), wipe σ1 vs = W → g xs σ1 H (fun σ2 H2 => wipe σ2 vs = W → Q σ2 H2) → g xs σ1 H fun σ2 H2 => wipe σ2 vs = W ∧ Q σ2 H2
theorem own_name {vs : List Nat} {i : Nat} (hi : i ∈ vs) : OwnG (gName i) vs := fun W x σ1 H Q hw q => by
  have z : wipe (σ1.set i (some x)) vs = W := (wipe_set σ1 _ hi).trans hw
  exact ⟨z, q z⟩
theorem owns_nil {vs : List Nat} : OwnGs gNil vs := fun W x σ1 H Q hw ⟨e, q⟩ => ⟨e, hw, q hw⟩
theorem owns_cons {vs : List Nat} {i : Nat} {gs : TGs} (hi : i ∈ vs) (h : OwnGs gs vs) : OwnGs (gCons (gName i) gs) vs := fun W x σ1 H Q hw ⟨v, r, e, q⟩ => ⟨v, r, e, h W r _ H Q ((wipe_set σ1 _ hi).trans hw) q⟩
theorem own_tup {K : PySem.W.Frag} {n : Nat} {vs : List Nat} {gs : TGs} (h : OwnGs gs vs) : OwnG (gTup K n gs) vs := fun W x σ1 H Q hw ⟨a, xs, e1, e2, e3, q⟩ => ⟨a, xs, e1, e2, e3, h W xs σ1 H Q hw q⟩
/-! ### statements -/
structure Post where
  nx : Env → Prop
  rt : PyData → Env → Prop
  bk : Env → Prop := fun _ => False
  ct : Env → Prop := fun _ => False
structure Ans (K : PySem.W.Frag) (F I0 : Hp) (D : Ends) (P : Post) : Prop where
  nx : ∀ (I' : Hp) (σ' : L2.St) (H' : Hp) (e : Env), EnvI K F I0 I' σ' H' e → P.nx e → D.nx σ' H'
  rt : ∀ (v : V) (I' : Hp) (σ' : L2.St) (H' : Hp) (d : PyData) (e : Env), EnvI K F I0 I' σ' H' e → Dq K I' v d → P.rt d e → D.rt v H'
  bk : ∀ (I' : Hp) (σ' : L2.St) (H' : Hp) (e : Env), EnvI K F I0 I' σ' H' e → P.bk e → D.bk σ' H'
  ct : ∀ (I' : Hp) (σ' : L2.St) (H' : Hp) (e : Env), EnvI K F I0 I' σ' H' e → P.ct e → D.ct σ' H'
def Run (K : PySem.W.Frag) (ts : TS) (env : Env) (P : Post) : Prop :=
  ∀ (F I0 I : Hp) (σ : L2.St) (H : Hp) (D : Ends), EnvI K F I0 I σ H env → Ans K F I0 D P → ts D σ H
section
variable {K : PySem.W.Frag} {te ta tb : TE} {tt : TT} {tr : TA} {t u : TS} {env : Env} {d a b c : PyData} {as : List PyData} {P : Post} {i : Nat}
theorem Run.imp {P' : Post} (h : Run K t env P) (k1 : ∀ e, P.nx e → P'.nx e) (k2 : ∀ d e, P.rt d e → P'.rt d e) (k3 : ∀ e, P.bk e → P'.bk e) (k4 : ∀ e, P.ct e → P'.ct e) : Run K t env P' :=
  fun F I0 I σ H D E A => h F I0 I σ H D E ⟨fun I' σ' H' e E' p => A.nx I' σ' H' e E' (k1 e p), fun v I' σ' H' d e E' hd p => A.rt v I' σ' H' d e E' hd (k2 d e p), fun I' σ' H' e E' p => A.bk I' σ' H' e E' (k3 e p), fun I' σ' H' e E' p => A.ct I' σ' H' e E' (k4 e p)⟩
theorem run_seq (h : Run K t env { P with nx := fun e => Run K u e P }) : Run K (tSeq t u) env P := fun F I0 I σ H D E A =>
  h F I0 I σ H { D with nx := u D } E ⟨fun I' σ' H' e E' p => p F I0 I' σ' H' D E' A, A.rt, A.bk, A.ct⟩
theorem run_next (h : P.nx env) : Run K tNext env P := fun F I0 I σ H D E A => A.nx I σ H env E h
theorem run_break (h : P.bk env) : Run K tBreak env P := fun F I0 I σ H D E A => A.bk I σ H env E h
theorem run_cont (h : P.ct env) : Run K tCont env P := fun F I0 I σ H D E A => A.ct I σ H env E h
theorem run_set (h : EvE K te env fun d e => P.nx (e.set i (some (.dat d)))) : Run K (tAsg te (gName i)) env P := fun F I0 I σ H D E A =>
  h F I0 I σ H E _ fun v I' H' d e E' _ hd p => A.nx I' _ H' _ (E'.setD i hd) p
theorem run_ret (h : EvE K te env P.rt) : Run K (tRet te) env P := fun F I0 I σ H D E A =>
  h F I0 I σ H E _ fun v I' H' d e E' _ hd p => A.rt v I' σ H' d e E' hd p
theorem run_retN (h : P.rt .none env) : Run K tRetN env P := fun F I0 I σ H D E A => A.rt .non I σ H .none env E .non h
theorem run_if (h : EvT K tt env fun p e => if p = true then Run K t e P else Run K u e P) : Run K (tIfS tt t u) env P := fun F I0 I σ H D E A =>
  h F I0 I σ H E _ fun I' H' p e E' _ hp => by
    cases p with
    | true =>
      rw [if_pos rfl] at hp ⊢
      exact hp F I0 I' σ H' D E' A
    | false =>
      rw [if_neg Bool.false_ne_true] at hp ⊢
      exact hp F I0 I' σ H' D E' A
theorem run_drop (h : EvE K te env fun _ e => P.nx e) : Run K (tDrop te) env P := fun F I0 I σ H D E A =>
  h F I0 I σ H E _ fun v I' H' d e E' _ hd p => A.nx I' σ H' e E' p
theorem run_aug {f : Int → Int → Int} {x : Int} (hx : env[i]? = some (some (.dat (.int x)))) (h : EvE K te env fun d e => ∃ y, d = .int y ∧ P.nx (e.set i (some (.dat (.int (f x y)))))) : Run K (tAug i te (ipI f)) env P := fun F I0 I σ H D E A => by
  obtain ⟨v, h1, h2⟩ := E.at_ i _ hx
  cases dp_int h2
  exact ⟨.int x, h1, h F I0 I σ H E _ fun w I' H' d e E' _ hd ⟨y, ey, p⟩ => by
    subst ey
    cases dp_int hd
    exact ⟨x, y, rfl, rfl, A.nx I' _ H' _ (E'.setD i (.int _)) p⟩⟩
/-- x = []: a list of one's own -/
theorem run_newL (h : ∀ p, P.nx (env.set i (some (.lst p [])))) : Run K (tAsg (tLst tNil) (gName i)) env P := fun F I0 I σ H D E A =>
  ⟨Nat.zero_le _, fun p hp => A.nx I _ _ _ (E.setC (x := .lst p []) i hp ⟨rfl, E.fh.back hp, E.ih.back hp, [], upd_same, .nil⟩) (h p)⟩
/-- x = {}: a dict of one's own -/
theorem run_newK (h : ∀ p, P.nx (env.set i (some (.dic p [])))) : Run K (tAsg tDNewK (gName i)) env P := fun F I0 I σ H D E A =>
  fun p hp => A.nx I _ _ _ (E.setC (x := .dic p []) i hp ⟨rfl, E.fh.back hp, E.ih.back hp, upd_same⟩) (h p)
/-- an own list is let go -/
theorem run_freeze {p : Addr} {ds : List PyData} (hk : env[i]? = some (some (.lst p ds))) (h : Run K t (env.set i (some (.dat (.list ds)))) P) : Run K t env P := fun F I0 I σ H D E A => by
  obtain ⟨I', _, _, E'⟩ := E.freeze hk
  exact h F I0 I' σ H D E' A
theorem run_less {n m : Nat} {p : Addr} (hk : env[i]? = some (some (.prs p n))) (hm : m ≤ n) (h : Run K t (env.set i (some (.prs p m))) P) : Run K t env P := fun F I0 I σ H D E A =>
  h F I0 I σ H D (E.less hk hm) A
theorem ev_less {n m : Nat} {p : Addr} {Q : PyData → Env → Prop} (hk : env[i]? = some (some (.prs p n))) (hm : m ≤ n) (h : EvE K te (env.set i (some (.prs p m))) Q) : EvE K te env Q := fun F I0 I σ H E =>
  h F I0 I σ H (E.less hk hm)
/-- xs.append(e), xs one's own -/
theorem run_app (h : EvE K te env fun d e => ∃ p ds, e[i]? = some (some (.lst p ds)) ∧ ds.length < 100000 ∧ P.nx (e.set i (some (.lst p (ds ++ [d]))))) :
    (∃ p ds, env[i]? = some (some (.lst p ds))) → Run K (tDrop (tBM K "list" rAppend (tVar i) (tCons te tNil))) env P := fun ⟨p0, ds0, h0⟩ F I0 I σ H D E A => by
  obtain ⟨v, h1, rfl, hf, hi, xs, hh, hd⟩ := E.at_ i _ h0
  refine ⟨.ref p0, h1, .inl ⟨rfl, xs, .inl (.inl hh)⟩, h F I0 I σ H E _ fun y I' H' d e E' _ hy ⟨a, ds, he, hl, p⟩ => ?_⟩
  obtain ⟨v', h1', ev, hf', hi', xs', hh', hd'⟩ := E'.at_ i _ he
  subst ev
  rw [h1] at h1'
  cases h1'
  refine ⟨p0, xs', y, rfl, rfl, hh', Nat.lt_of_lt_of_le (by rw [dpA_len hd']; exact hl) (by decide), ?_⟩
  exact A.nx I' σ _ _ (E'.putC (y := .lst p0 (ds ++ [d])) he rfl h1 hi' hf' ⟨rfl, hf', hi', _, upd_same, dpA_app hd' (.cons hy .nil)⟩) p
/-- xs[i] = e, xs one's own -/
theorem run_setI {ti : TE} (h : EvE K te env fun d e => ∃ p ds, e[i]? = some (some (.lst p ds)) ∧ EvE K ti e fun k e' => ∃ j : Nat, k = .int j ∧ j < ds.length ∧ e'[i]? = some (some (.lst p ds)) ∧ P.nx (e'.set i (some (.lst p (ds.set j d))))) :
    Run K (tAsg te (gSub (tVar i) ti rSetL)) env P := fun F I0 I σ H D E A =>
  h F I0 I σ H E _ fun y I1 H1 d e E1 _ hy ⟨a, ds, he, hti⟩ => by
    obtain ⟨v, h1, rfl, hf, hi, xs, hh, hd⟩ := E1.at_ i _ he
    refine ⟨.ref a, h1, hti F I0 I1 σ H1 E1 _ fun k I2 H2 kd e2 E2 x2 hk ⟨j, ek, hj, he2, p⟩ => ?_⟩
    subst ek
    cases dp_int hk
    obtain ⟨v', h1', ev, hf', hi', xs', hh', hd'⟩ := E2.at_ i _ he2
    have hl := dpA_len hd'
    refine ⟨a, xs', (j : Int), j, rfl, rfl, hh', ?_, ?_⟩
    · unfold ixN
      rw [if_pos (by omega), if_pos (by omega)]
      simp
    · exact A.nx I2 σ _ _ (E2.putC (y := .lst a (ds.set j d)) he2 rfl h1 hi' hf' ⟨rfl, hf', hi', _, upd_same, dpA_set j hd' (dp_mono x2 hy)⟩) p
/-! own dicts -/
theorem run_dput {k : Key} {q : Addr} {kvs : List (Key × V)} {w : V} {ty tv : TE} (hd : env[i]? = some (some (.dic q kvs))) (hv : ∀ σ H Q, Q w H → tv σ H Q) {kd : PyData} (hk : EvP K ty env kd) (ek : toV kd = kV k) (fk : flatD kd = true) (hl : kvs.length < 100000)
    (h : P.nx (env.set i (some (.dic q (putK kvs k w))))) : Run K (sDPut (tVar i) ty tv) env P := fun F I0 I σ H D E A => by
  refine hv σ H _ ?_
  obtain ⟨v, h1, rfl, hf, hi, hh⟩ := E.at_ i _ hd
  refine ⟨.ref q, h1, hk F I0 I σ H E _ fun y I1 H1 d e E1 _ hy ⟨e1, e2⟩ => ?_⟩
  subst e1 e2
  obtain ⟨v', h1', ev, hf', hi', hh'⟩ := E1.at_ i _ hd
  have ey := (dp_flat hy fk).1
  rw [ek] at ey
  subst ey
  refine ⟨q, _, rfl, DPut.k hh' (Nat.lt_of_lt_of_le hl (by decide)), ?_⟩
  exact A.nx I1 σ _ _ (E1.putC (y := .dic q (putK kvs k w)) hd rfl h1 hi' hf' ⟨rfl, hf', hi', upd_same⟩) h
theorem ep_din {k : Key} {q : Addr} {kvs : List (Key × V)} {ty : TE} {kd : PyData} (hk : EvP K ty env kd) (ek : toV kd = kV k) (fk : flatD kd = true) (hd : env[i]? = some (some (.dic q kvs))) : EvP K (tDIn ty (tVar i)) env (.bool (valV kvs k).isSome) := fun F I0 I σ H E Q qq =>
  hk F I0 I σ H E _ fun y I1 H1 d e E1 x1 hy ⟨e1, e2⟩ => by
    subst e1 e2
    obtain ⟨v, h1, rfl, hf, hi, hh⟩ := E1.at_ i _ hd
    have ey := (dp_flat hy fk).1
    rw [ek] at ey
    subst ey
    exact ⟨.ref q, h1, q, _, rfl, DGet.k hh, qq _ I1 H1 _ _ E1 x1 (.bl _) ⟨rfl, rfl⟩⟩
theorem ep_dnin {k : Key} {q : Addr} {kvs : List (Key × V)} {ty : TE} {kd : PyData} (hk : EvP K ty env kd) (ek : toV kd = kV k) (fk : flatD kd = true) (hd : env[i]? = some (some (.dic q kvs))) : EvP K (tDNotIn ty (tVar i)) env (.bool (!(valV kvs k).isSome)) := fun F I0 I σ H E Q qq =>
  hk F I0 I σ H E _ fun y I1 H1 d e E1 x1 hy ⟨e1, e2⟩ => by
    subst e1 e2
    obtain ⟨v, h1, rfl, hf, hi, hh⟩ := E1.at_ i _ hd
    have ey := (dp_flat hy fk).1
    rw [ek] at ey
    subst ey
    exact ⟨.ref q, h1, q, _, rfl, DGet.k hh, qq _ I1 H1 _ _ E1 x1 (.bl _) ⟨rfl, rfl⟩⟩
theorem ep_dget {k : Key} {q : Addr} {kvs : List (Key × V)} {ty : TE} {kd : PyData} {w : V} (hd : env[i]? = some (some (.dic q kvs))) (hk : EvP K ty env kd) (ek : toV kd = kV k) (fk : flatD kd = true) (hw : valV kvs k = some w) (hc : ∀ I, Dq K I w c) : EvP K (tDGet (tVar i) ty) env c := fun F I0 I σ H E Q qq => by
  obtain ⟨v, h1, rfl, hf, hi, hh⟩ := E.at_ i _ hd
  refine ⟨.ref q, h1, hk F I0 I σ H E _ fun y I1 H1 d e E1 x1 hy ⟨e1, e2⟩ => ?_⟩
  subst e1 e2
  obtain ⟨v', h1', ev, hf', hi', hh'⟩ := E1.at_ i _ hd
  have ey := (dp_flat hy fk).1
  rw [ek] at ey
  subst ey
  refine ⟨q, w, rfl, ?_, qq w I1 H1 c _ E1 x1 (hc _) ⟨rfl, rfl⟩⟩
  have g := DGet.k (k := k) hh'
  rw [hw] at g
  exact g
/-! own lists, looked at -/
theorem ep_lenL {a : Addr} {ds : List PyData} (h : env[i]? = some (some (.lst a ds))) : EvP K (tCB (fun xs H Q => ∃ x n, xs = [x] ∧ LenV K x H n ∧ Q (.int n) H) (tCons (tVar i) tNil)) env (.int ds.length) := fun F I0 I σ H E Q q => by
  obtain ⟨v, h1, rfl, hf, hi, xs, hh, hd⟩ := E.at_ i _ h
  refine ⟨.ref a, h1, .ref a, xs.length, rfl, .inl ⟨xs, .inl (.inl hh), rfl⟩, ?_⟩
  rw [dpA_len hd]
  exact q _ I H _ env E (Ex.refl I) (.int _) ⟨rfl, rfl⟩
theorem ep_inL {neg : Bool} {p : Addr} {ds : List PyData} (ha : EvP K ta env a) (fa : flatD a = true) (h : env[i]? = some (some (.lst p ds))) (ff : ds.all flatD = true) : EvP K (tOp (rIn K neg) ta (tVar i)) env (.bool (if neg then !inV (toV a) (ds.map toV) else inV (toV a) (ds.map toV))) := fun F I0 I σ H E Q q =>
  ha F I0 I σ H E _ fun y I1 H1 d e E1 x1 hy ⟨e1, e2⟩ => by
    subst e1 e2
    obtain ⟨v, h1, rfl, hf, hi, xs, hh, hd⟩ := E1.at_ i _ h
    obtain ⟨z1, f1⟩ := dp_flat hy fa
    obtain ⟨z2, f2⟩ := dpA_flat hd ff
    refine ⟨.ref p, h1, p, xs, rfl, .inl (.inl (.inl hh)), f1, f2, ?_⟩
    rw [z1, z2]
    exact q _ I1 H1 _ _ E1 x1 (.bl _) ⟨rfl, rfl⟩

/-- xs[j], xs one's own -/
theorem ep_ixOwn {p : Addr} {ds : List PyData} {j : Int} (h : env[i]? = some (some (.lst p ds))) (hb : EvP K tb env (.int j)) (hj : atI ds j = some c) : EvP K (tOp (rIxL K) (tVar i) tb) env c := fun F I0 I σ H E Q q => by
  obtain ⟨v, h1, rfl, hf, hi, xs, hh, hd⟩ := E.at_ i _ h
  refine ⟨.ref p, h1, hb F I0 I σ H E _ fun y I1 H1 d e E1 x1 hy ⟨z1, z2⟩ => ?_⟩
  subst z1 z2
  cases dp_int hy
  obtain ⟨v', h1', ev, hf', hi', xs', hh', hd'⟩ := E1.at_ i _ h
  unfold atI at hj
  cases hk : ixN ds.length j with
  | none => rw [hk] at hj; cases hj
  | some m =>
    rw [hk] at hj
    have hj' : ds[m]? = some c := hj
    obtain ⟨w, hw, hwd⟩ := dpA_get hd' hj'
    refine ⟨p, xs', j, w, rfl, rfl, .inl (.inl hh'), ?_, q w I1 H1 c _ E1 x1 hwd ⟨rfl, rfl⟩⟩
    unfold atI
    rw [dpA_len hd', hk]
    exact hw
theorem run_openP {n : Nat} {p : Addr} (hk : env[i]? = some (some (.prs p n))) (h : ∀ a b c : Int, PurseOk [.int a, .int b, .int c] n → Run K t (env.set i (some (.lst p [.int a, .int b, .int c]))) P) : Run K t env P := fun F I0 I σ H D E A => by
  obtain ⟨a, b, c, hp, E'⟩ := E.openP hk
  exact h a b c hp F I0 I σ H D E' A
theorem run_closeP {n : Nat} {p : Addr} {a b c : Int} (hk : env[i]? = some (some (.lst p [.int a, .int b, .int c]))) (hp : PurseOk [.int a, .int b, .int c] n) (h : Run K t (env.set i (some (.prs p n))) P) : Run K t env P := fun F I0 I σ H D E A =>
  h F I0 I σ H D (E.closeP hk hp) A
/-! ### calls of defs -/
/-- a def on data that changes nothing -/
def spD (K : PySem.W.Frag) (Pre : List PyData → Prop) (Ps : List PyData → PyData → Prop) : Sp := fun vs H Q _ => ∃ (I : Hp) (ds : List PyData), Ex I H ∧ DqAll K I vs ds ∧ Pre ds ∧
  ∀ (v : V) (I' H' : Hp) (d : PyData), Ex I I' → Ex I' H' → Ex H H' → (∀ a, H a ≠ none → I a = none → I' a = none) → Dq K I' v d → Ps ds d → Q v H'
theorem ev_call {Pre : List PyData → Prop} {Ps : List PyData → PyData → Prop} {E0 : XK} {R : PyData → Env → Prop} (h : EvA K tr env fun ds e => Pre ds ∧ ∀ d, Ps ds d → R d e) : EvE K (tCall (spD K Pre Ps) [] E0 tr) env R := fun F I0 I σ H E Q q =>
  h F I0 I σ H E _ fun vs I1 H1 ds e E1 x1 hvs ⟨hp, hk⟩ => by
    rw [List.append_nil]
    exact ⟨I1, ds, E1.ih, hvs, hp, fun v I2 H2 d a1 a2 a3 a4 hd hps => q v I2 H2 d e (E1.called a1 a2 a3 a4) (x1.trans a1) hd (hk d hps)⟩
theorem ep_call {Pre : List PyData → Prop} {f : List PyData → PyData} {E0 : XK} (h : EvPA K tr env as) (hp : Pre as) : EvP K (tCall (spD K Pre fun ds d => d = f ds) [] E0 tr) env (f as) :=
  ev_call (h.imp fun ds e ⟨e1, e2⟩ => by
    subst e1 e2
    exact ⟨hp, fun d ed => ⟨ed, rfl⟩⟩)
/-- the body of such a def -/
theorem body_D {Pre : List PyData → Prop} {Ps : List PyData → PyData → Prop} {N : List Str} {vs : List V} {H : Hp} {Q : VK} {E : XK} (h : spD K Pre Ps vs H Q E)
    (hb : ∀ ds, Pre ds → vs.length = ds.length → Run K t (ds.map (fun d => some (.dat d)) ++ List.replicate (N.length - ds.length) none) ⟨fun _ => Ps ds .none, fun d _ => Ps ds d, fun _ => False, fun _ => False⟩) :
    t { nx := fun _ H' => Q .non H', rt := Q } (start N vs) H := by
  obtain ⟨I, ds, hI, hvs, hp, k⟩ := h
  have hl := dpA_len hvs
  have E1 : EnvI K H I I (start N vs) H (ds.map (fun d => some (.dat d)) ++ List.replicate (N.length - ds.length) none) := by
    have hst : start N vs = vs.map some ++ List.replicate (N.length - vs.length) none := rfl
    refine ⟨Ex.refl H, Ex.refl I, hI, fun _ _ h => h, by rw [hst]; simp [hl], fun i x e => ?_, fun i j x y _ hi _ cx _ => ?_⟩
    · by_cases z : i < ds.length
      · rw [List.getElem?_append_left (by simpa using z), List.getElem?_map, List.getElem?_eq_getElem z] at e
        have e' : x = .dat ds[i] := by simpa using e.symm
        subst e'
        obtain ⟨v, hv, hd⟩ := dpA_get hvs (List.getElem?_eq_getElem z)
        refine ⟨v, ?_, hd⟩
        rw [hst, List.getElem?_append_left (by simpa [hl] using z), List.getElem?_map, hv]
        rfl
      · rw [List.getElem?_append_right (by simpa using z), List.getElem?_replicate] at e
        split at e <;> cases e
    · exfalso
      by_cases z : i < ds.length
      · rw [List.getElem?_append_left (by simpa using z), List.getElem?_map, List.getElem?_eq_getElem z] at hi
        have e' : x = .dat ds[i] := by simpa using hi.symm
        subst e'
        cases cx
      · rw [List.getElem?_append_right (by simpa using z), List.getElem?_replicate] at hi
        split at hi <;> cases hi
  exact hb ds hp hl H I I _ H _ E1 ⟨fun I' σ' H' e E' p => k .non I' H' .none E'.oi E'.ih E'.fh E'.fr .non p, fun v I' σ' H' d e E' hd p => k v I' H' d E'.oi E'.ih E'.fh E'.fr hd p, fun _ _ _ _ _ p => p.elim, fun _ _ _ _ _ p => p.elim⟩
def lessH (H : Hp) (p : Addr) : Hp := fun b => if b = p then none else H b
theorem lessH_same {H : Hp} {p : Addr} : lessH H p p = none := if_pos rfl
theorem lessH_ne {H : Hp} {p a : Addr} (h : a ≠ p) : lessH H p a = H a := if_neg h
theorem lessH_some {H : Hp} {p a : Addr} {o : HO} (h : lessH H p a = some o) : a ≠ p ∧ H a = some o := by
  by_cases z : a = p
  · subst z
    rw [lessH_same] at h
    cases h
  · rw [lessH_ne z] at h
    exact ⟨z, h⟩
/-- a def whose first argument is the purse -/
def spU (K : PySem.W.Frag) (cost : Nat) (Pre : List PyData → Prop) (Ps : List PyData → PyData → Prop) : Sp := fun vs H Q _ => ∃ (p : Addr) (n : Nat) (xs : List V) (I : Hp) (ds : List PyData), vs = .ref p :: xs ∧ (∃ ws, H p = some (.lst ws) ∧ PurseOk ws (n + cost)) ∧ I p = none ∧ Ex I H ∧ DqAll K I xs ds ∧ Pre ds ∧
  ∀ (v : V) (I' H' : Hp) (d : PyData), Ex I I' → Ex I' H' → (∀ a o, a ≠ p → H a = some o → H' a = some o) → (∀ a, H a ≠ none → I a = none → I' a = none) → (∃ ws, H' p = some (.lst ws) ∧ PurseOk ws n) → Dq K I' v d → Ps ds d → Q v H'
theorem ev_callU {cost : Nat} {Pre : List PyData → Prop} {Ps : List PyData → PyData → Prop} {E0 : XK} {R : PyData → Env → Prop} (h0 : ∃ p n, env[i]? = some (some (.prs p n)))
    (h : EvA K tr env fun ds e => Pre ds ∧ ∃ p n, env[i]? = some (some (.prs p (n + cost))) ∧ e = env ∧ ∀ d, Ps ds d → R d (e.set i (some (.prs p n)))) : EvE K (tCall (spU K cost Pre Ps) [] E0 (tCons (tVar i) tr)) env R := fun F I0 I σ H E Q q => by
  obtain ⟨p0, n0, h0⟩ := h0
  obtain ⟨v, h1, rfl, hf, hi, ws, hh, hpu⟩ := E.at_ i _ h0
  refine ⟨.ref p0, h1, h F I0 I σ H E _ fun vs I1 H1 ds e E1 x1 hvs ⟨hp, p, n, he, ee, hk⟩ => ?_⟩
  subst ee
  obtain ⟨v', h1', ev, hf', hi', ws', hh', hpu'⟩ := E1.at_ i _ he
  subst ev
  rw [h1] at h1'
  cases h1'
  rw [List.append_nil]
  exact ⟨p0, n, vs, I1, ds, rfl, ⟨ws', hh', hpu'⟩, hi', E1.ih, hvs, hp, fun v I2 H2 d a1 a2 a3 a4 ⟨us, a5, a6⟩ hd hps =>
    q v I2 H2 d _ (E1.calledC (y := .prs p0 n) he rfl h1 hf' a1 a2 a3 a4 ⟨rfl, hf', a4 p0 (by rw [hh']; exact fun z => nomatch z) hi', us, a5, a6⟩) (x1.trans a1) hd (hk d hps)⟩
/-- the body of such a def: env ends with some purse at slot 0 -/
theorem body_U {cost : Nat} {Pre : List PyData → Prop} {Ps : List PyData → PyData → Prop} {N : List Str} {vs : List V} {H : Hp} {Q : VK} {E : XK} (h : spU K cost Pre Ps vs H Q E)
    (hb : ∀ p n ds, Pre ds → vs.length = ds.length + 1 → Run K t (some (.prs p (n + cost)) :: (ds.map (fun d => some (.dat d)) ++ List.replicate (N.length - (ds.length + 1)) none)) ⟨fun e => (∃ m, n ≤ m ∧ e[0]? = some (some (.prs p m))) ∧ Ps ds .none, fun d e => (∃ m, n ≤ m ∧ e[0]? = some (some (.prs p m))) ∧ Ps ds d, fun _ => False, fun _ => False⟩) :
    t { nx := fun _ H' => Q .non H', rt := Q } (start N vs) H := by
  obtain ⟨p, n, xs, I, ds, rfl, ⟨ws, hpp, hok⟩, hIp, hI, hvs, hp, k⟩ := h
  have hl := dpA_len hvs
  have hst : start N (.ref p :: xs) = some (.ref p) :: (xs.map some ++ List.replicate (N.length - (xs.length + 1)) none) := rfl
  -- the entry heap, the purse left out
  have E1 : EnvI K (lessH H p) I I (start N (.ref p :: xs)) H (some (.prs p (n + cost)) :: (ds.map (fun d => some (.dat d)) ++ List.replicate (N.length - (ds.length + 1)) none)) := by
    refine ⟨fun a o h => ?_, Ex.refl I, hI, fun _ _ h => h, by rw [hst]; simp [hl], fun i x e => ?_, fun i j x y hij hi hj cx cy => ?_⟩
    · exact (lessH_some h).2
    · cases i with
      | zero =>
        have e' : x = .prs p (n + cost) := by simpa using e.symm
        subst e'
        exact ⟨.ref p, rfl, rfl, lessH_same, hIp, ws, hpp, hok⟩
      | succ i =>
        have e : (ds.map (fun d => some (Val.dat d)) ++ List.replicate (N.length - (ds.length + 1)) none)[i]? = some (some x) := by simpa using e
        by_cases z : i < ds.length
        · rw [List.getElem?_append_left (by simpa using z), List.getElem?_map, List.getElem?_eq_getElem z] at e
          have e' : x = .dat ds[i] := by simpa using e.symm
          subst e'
          obtain ⟨v, hv, hd⟩ := dpA_get hvs (List.getElem?_eq_getElem z)
          refine ⟨v, ?_, hd⟩
          rw [hst, List.getElem?_cons_succ, List.getElem?_append_left (by simpa [hl] using z), List.getElem?_map, hv]
          rfl
        · rw [List.getElem?_append_right (by simpa using z), List.getElem?_replicate] at e
          split at e <;> cases e
    · exfalso
      have no : ∀ {m u}, (some (Val.prs p (n + cost)) :: (ds.map (fun d => some (Val.dat d)) ++ List.replicate (N.length - (ds.length + 1)) none))[m + 1]? = some (some u) → isCell u = true → False := fun {m u} e c => by
        have e : (ds.map (fun d => some (Val.dat d)) ++ List.replicate (N.length - (ds.length + 1)) none)[m]? = some (some u) := by simpa using e
        by_cases z : m < ds.length
        · rw [List.getElem?_append_left (by simpa using z), List.getElem?_map, List.getElem?_eq_getElem z] at e
          have e' : u = .dat ds[m] := by simpa using e.symm
          subst e'
          cases c
        · rw [List.getElem?_append_right (by simpa using z), List.getElem?_replicate] at e
          split at e <;> cases e
      cases i with
      | succ i => exact no hi cx
      | zero =>
        cases j with
        | zero => exact hij rfl
        | succ j => exact no hj cy
  have out : ∀ {v : V} {I' : Hp} {σ' : L2.St} {H' : Hp} {d : PyData} {e : Env}, EnvI K (lessH H p) I I' σ' H' e → (∃ m, n ≤ m ∧ e[0]? = some (some (.prs p m))) → Dq K I' v d → Ps ds d → Q v H' := fun {v I' σ' H' d e} E' ⟨m, hm, h0⟩ hd hps => by
    obtain ⟨w, _, _, hF, hI', us, hH', hpo⟩ := E'.at_ 0 _ h0
    refine k v I' H' d E'.oi E'.ih (fun a o hap ha => E'.fh a o (by rw [lessH_ne hap]; exact ha)) (fun a h1 h2 => ?_) ⟨us, hH', hpo.less hm⟩ hd hps
    by_cases z : a = p
    · subst z
      exact hI'
    · exact E'.fr a (by rw [lessH_ne z]; exact h1) h2
  exact hb p n ds hp (by rw [List.length_cons, hl]) _ I I _ H _ E1 ⟨fun I' σ' H' e E' ⟨q1, q2⟩ => out E' q1 .non q2, fun v I' σ' H' d e E' hd ⟨q1, q2⟩ => out E' q1 hd q2, fun _ _ _ _ _ p => p.elim, fun _ _ _ _ _ p => p.elim⟩

/-! ### targets -/
def Tgt (K : PySem.W.Frag) (g : TG) (d : PyData) (env : Env) (R : Env → Prop) : Prop :=
  ∀ (F I0 I : Hp) (σ : L2.St) (H : Hp) (v : V), EnvI K F I0 I σ H env → Dq K I v d → ∀ Q : L2.St → Hp → Prop, (∀ σ' e', EnvI K F I0 I σ' H e' → R e' → σ'.length = σ.length → Q σ' H) → g v σ H Q
theorem tgt_name {R : Env → Prop} (h : R (env.set i (some (.dat d)))) : Tgt K (gName i) d env R := fun F I0 I σ H v E hd Q q => q _ _ (E.setD i hd) h (by rw [List.length_set])
def Tgts (K : PySem.W.Frag) (g : TGs) (ds : List PyData) (env : Env) (R : Env → Prop) : Prop :=
  ∀ (F I0 I : Hp) (σ : L2.St) (H : Hp) (vs : List V), EnvI K F I0 I σ H env → DqAll K I vs ds → ∀ Q : L2.St → Hp → Prop, (∀ σ' e', EnvI K F I0 I σ' H e' → R e' → σ'.length = σ.length → Q σ' H) → g vs σ H Q
theorem tgts_nil {R : Env → Prop} (h : R env) : Tgts K gNil [] env R := fun F I0 I σ H v E hd Q q => by
  cases hd
  exact ⟨rfl, q _ _ E h rfl⟩
theorem tgts_cons {g : TG} {gs : TGs} {ds : List PyData} {R : Env → Prop} (h : Tgt K g d env fun e => Tgts K gs ds e R) : Tgts K (gCons g gs) (d :: ds) env R := fun F I0 I σ H v E hd Q q => by
  cases hd with
  | cons h1 h2 =>
    exact ⟨_, _, rfl, h F I0 I σ H _ E h1 _ fun σ' e' E' k l => k F I0 I σ' H _ E' h2 Q fun σ2 e2 E2 r l2 => q σ2 e2 E2 r (l2.trans l)⟩
theorem tgt_tup {gs : TGs} {ds : List PyData} {n : Nat} {R : Env → Prop} (hn : ds.length = n) (h : Tgts K gs ds env R) : Tgt K (gTup K n gs) (.tuple ds) env R := fun F I0 I σ H v E hd Q q => by
  obtain ⟨a, xs, rfl, hs, hds⟩ := dp_tup hd
  exact ⟨a, xs, rfl, E.ih.t hs, (dpA_len hds).trans hn, h F I0 I σ H xs E hds Q q⟩
theorem run_asg {g : TG} (h : EvE K te env fun d e => Tgt K g d e P.nx) : Run K (tAsg te g) env P := fun F I0 I σ H D E A =>
  h F I0 I σ H E _ fun v I' H' d e E' _ hd k => k F I0 I' σ H' v E' hd _ fun σ' e' E2 r _ => A.nx I' σ' H' e' E2 r

/-! ### what is walked -/
def EvW (K : PySem.W.Frag) (wi : TI) (env : Env) (ds : List PyData) : Prop :=
  ∀ (F I0 I : Hp) (σ : L2.St) (H : Hp), EnvI K F I0 I σ H env → ∀ R : It → Hp → Prop,
    (∀ (J : It) (I' H' : Hp) (G : Hp → Prop) (Y : Nat → Hp → V → Hp → Prop), EnvI K F I0 I' σ H' env → Ex I I' → Walk J ds.length G Y → (∀ H2, Ex I' H2 → G H2) →
      (∀ (j : Nat) (H2 : Hp) (x : V) (H3 I2 : Hp), j < ds.length → Ex I' I2 → Ex I2 H2 → Y j H2 x H3 → ∃ d, ds[j]? = some d ∧ ((H3 = H2 ∧ Dq K I2 x d) ∨ ∃ T o, H2 T = none ∧ H3 = upd H2 T o ∧ Dq K (upd I2 T o) x d)) → R J H') → wi σ H R
theorem ew_tup {ds : List PyData} (h : EvP K te env (.tuple ds)) : EvW K (iTup K te) env ds := fun F I0 I σ H E R q =>
  h F I0 I σ H E _ fun v I1 H1 d e E1 x1 hd ⟨e1, e2⟩ => by
    subst e1 e2
    obtain ⟨a, xs, rfl, hs, hds⟩ := dp_tup hd
    have hl := dpA_len hds
    refine ⟨a, rfl, ⟨xs, E1.ih.t hs⟩, q _ I1 H1 _ _ E1 x1 (hl ▸ walk_tup (K := K) (a := a) (xs := xs)) (fun H2 x => x.t hs) fun j H2 x H3 I2 hj x2 x3 y => ?_⟩
    obtain ⟨eH, ex⟩ := y
    obtain ⟨w, hw, hwd⟩ := dpA_get hds (List.getElem?_eq_getElem hj)
    rw [hw] at ex
    cases ex
    exact ⟨_, List.getElem?_eq_getElem hj, .inl ⟨eH, dp_mono x2 hwd⟩⟩
theorem ew_list {ds : List PyData} (h : EvP K te env (.list ds)) : EvW K (iList K te) env ds := fun F I0 I σ H E R q =>
  h F I0 I σ H E _ fun v I1 H1 d e E1 x1 hd ⟨e1, e2⟩ => by
    subst e1 e2
    obtain ⟨a, xs, rfl, hs, hds⟩ := dp_lst hd
    have hl := dpA_len hds
    refine ⟨a, rfl, ⟨xs, E1.ih.l (.inl (.inl hs))⟩, q _ I1 H1 _ _ E1 x1 (hl ▸ walk_list (K := K) (a := a) (xs := xs)) (fun H2 x => x.l (.inl (.inl hs))) fun j H2 x H3 I2 hj x2 x3 y => ?_⟩
    obtain ⟨eH, ex⟩ := y
    obtain ⟨w, hw, hwd⟩ := dpA_get hds (List.getElem?_eq_getElem hj)
    rw [hw] at ex
    cases ex
    exact ⟨_, List.getElem?_eq_getElem hj, .inl ⟨eH, dp_mono x2 hwd⟩⟩
def signs (z : Str) : List PyData := z.cps.toList.map fun c => .str ⟨#[c]⟩
theorem ew_str {z : Str} (h : EvP K te env (.str z)) : EvW K (iStr te) env (signs z) := fun F I0 I σ H E R q =>
  h F I0 I σ H E _ fun v I1 H1 d e E1 x1 hd ⟨e1, e2⟩ => by
    subst e1 e2
    cases dp_str hd
    have hl : (signs z).length = z.cps.size := by simp [signs]
    refine ⟨z, rfl, q _ I1 H1 _ _ E1 x1 (hl ▸ walk_str (z := z)) (fun H2 x => trivial) fun j H2 x H3 I2 hj x2 x3 y => ?_⟩
    obtain ⟨eH, c, hc, ex⟩ := y
    subst ex
    refine ⟨.str ⟨#[c]⟩, ?_, .inl ⟨eH, .str _⟩⟩
    unfold signs
    rw [List.getElem?_map, Array.getElem?_toList, hc]
    rfl
def intsD (lo : Int) (n : Nat) : List PyData := (List.range n).map fun (k : Nat) => .int (lo + (k : Int))
theorem intsD_len (lo : Int) (n : Nat) : (intsD lo n).length = n := by simp [intsD]
theorem intsD_get {lo : Int} {n j : Nat} (h : j < n) : (intsD lo n)[j]? = some (.int (lo + (j : Int))) := by
  unfold intsD
  rw [List.getElem?_map, List.getElem?_range h]
  rfl
theorem ew_rng1 {n : Int} (hn : n ≤ 100000 ∧ -100000 ≤ n) (h : EvPA K tr env [.int n]) : EvW K (iRng1 tr) env (intsD 0 n.toNat) := fun F I0 I σ H E R q =>
  h F I0 I σ H E _ fun vs I1 H1 d e E1 x1 hd ⟨e1, e2⟩ => by
    subst e1 e2
    cases hd with
    | cons h1 h2 =>
      cases h2
      cases dp_int h1
      refine ⟨n, rfl, by omega, by omega, q _ I1 H1 _ _ E1 x1 (by rw [intsD_len]; exact walk_range (lo := 0) (n := n.toNat)) (fun H2 x => trivial) fun j H2 x H3 I2 hj x2 x3 y => ?_⟩
      obtain ⟨eH, ex⟩ := y
      subst ex
      rw [intsD_len] at hj
      exact ⟨_, intsD_get hj, .inl ⟨eH, .int _⟩⟩
/-- a for over it -/
theorem run_for {wi : TI} {g : TG} {ds : List PyData} (hw : EvW K wi env ds) (Inv : Nat → Env → Prop) (h0 : Inv 0 env)
    (hs : ∀ (j : Nat) (d : PyData) (e : Env), ds[j]? = some d → Inv j e → Tgt K g d e fun e' => Run K t e' ⟨Inv (j + 1), P.rt, P.nx, Inv (j + 1)⟩)
    (hd : ∀ e, Inv ds.length e → P.nx e) : Run K (tFor wi g t) env P := fun F I0 I σ H D E A =>
  hw F I0 I σ H E _ fun J I1 H1 G Y E1 x1 W hG hY => by
    refine for_it W (fun j σ' H' => ∃ I' e, EnvI K F I0 I' σ' H' e ∧ Ex I1 I' ∧ Inv j e) ⟨I1, env, E1, Ex.refl _, h0⟩ (fun j σ' H' _ ⟨I', e, E', x', _⟩ => hG H' (x'.trans E'.ih)) (fun j x σ' H' H3 hj hP hy => ?_) (fun σ' H' ⟨I', e, E', _, p⟩ => A.nx I' σ' H' e E' (hd e p))
    obtain ⟨I', e, E', x', p⟩ := hP
    obtain ⟨d, hdj, hx⟩ := hY j H' x H3 I' hj x' E'.ih hy
    have go : ∀ I3, Ex I' I3 → EnvI K F I0 I3 σ' H3 e → Dq K I3 x d → g x σ' H3 fun σ2 H2 => t { D with nx := fun σ' H' => ∃ I' e, EnvI K F I0 I' σ' H' e ∧ Ex I1 I' ∧ Inv (j + 1) e, ct := fun σ' H' => ∃ I' e, EnvI K F I0 I' σ' H' e ∧ Ex I1 I' ∧ Inv (j + 1) e, bk := D.nx } σ2 H2 := fun I3 x3 E3 hxd =>
      hs j d e hdj p F I0 I3 σ' H3 x E3 hxd _ fun σ2 e2 E2 r _ => by
        -- the turn keeps what the walk leans on: start the body with I0 := I3
        have E2' : EnvI K F I3 I3 σ2 H3 e2 := ⟨E2.fh, Ex.refl _, E2.ih, fun a h1 h2 => h2, E2.len, E2.at_, E2.ne⟩
        have back : ∀ {I4 : Hp} {σ4 : L2.St} {H4 : Hp} {e4 : Env}, EnvI K F I3 I4 σ4 H4 e4 → EnvI K F I0 I4 σ4 H4 e4 := fun {I4 σ4 H4 e4} E4 => ⟨E4.fh, E2.oi.trans E4.oi, E4.ih, fun a h1 h2 => E4.fr a h1 (E2.fr a h1 h2), E4.len, E4.at_, E4.ne⟩
        exact r F I3 I3 σ2 H3 _ E2' ⟨fun I4 σ4 H4 e4 E4 q => ⟨I4, e4, back E4, (x'.trans x3).trans E4.oi, q⟩, fun v I4 σ4 H4 d4 e4 E4 hd4 q => A.rt v I4 σ4 H4 d4 e4 (back E4) hd4 q, fun I4 σ4 H4 e4 E4 q => A.nx I4 σ4 H4 e4 (back E4) q, fun I4 σ4 H4 e4 E4 q => ⟨I4, e4, back E4, (x'.trans x3).trans E4.oi, q⟩⟩
    rcases hx with ⟨eH, hxd⟩ | ⟨T, o, hT, eH, hxd⟩
    · subst eH
      exact go I' (Ex.refl _) E' hxd
    · subst eH
      exact go _ (Ex.new (E'.ih.back hT)) (E'.newD hT) hxd
/-- a list comprehension over it: as, what is made so far; the block's own slots vs -/
theorem ev_lc {wi : TI} {g : TG} {vs : List Nat} {ds : List PyData} {R : PyData → Env → Prop} (hw : EvW K wi env ds) (hv : wipeE env vs = env) (hn : ds.length ≤ 50000) (Inv : Nat → List PyData → Env → Prop) (h0 : Inv 0 [] env)
    (hs : ∀ (j : Nat) (d : PyData) (as : List PyData) (e : Env), ds[j]? = some d → Inv j as e → Tgt K g d e fun e' => EvT K tt e' fun p e2 => if p = true then EvE K te e2 fun c e3 => Inv (j + 1) (as ++ [c]) (wipeE e3 vs) else Inv (j + 1) as (wipeE e2 vs))
    (hg : OwnG g vs)
    (hd : ∀ as e, Inv ds.length as e → wipeE e vs = e → R (.list as) e) : EvE K (tLc wi g tt te vs) env R := fun F I0 I σ H E Q q =>
  hw F I0 I σ H E _ fun J I1 H1 G Y E1 x1 W hG hY => fun D hD => by
    have hF : F D = none := E1.fh.back hD
    have h0D : I0 D = none := (E1.oi.trans E1.ih).back hD
    have start_ : EnvI K (upd F D (.lst [])) I0 I1 (wipe σ vs) (upd H1 D (.lst [])) env := by
      have z := (E1.guard (o := .lst []) hD).wiped vs
      rw [hv] at z
      exact z
    refine lc_it W (fun j H' => ∃ I' e acc as, EnvI K (upd F D (.lst acc)) I0 I' (wipe σ vs) H' e ∧ Ex I1 I' ∧ DqAll K I' acc as ∧ as.length ≤ j ∧ wipeE e vs = e ∧ Inv j as e) ⟨I1, env, [], [], start_, Ex.refl _, .nil, Nat.le_refl _, hv, h0⟩ (fun j H' _ ⟨I', e, acc, as, E', x', _⟩ => hG H' (x'.trans E'.ih)) (fun j x H' H3 hj hP hy => ?_) (fun H' ⟨I', e, acc, as, E', x', hacc, hlen, hwe, p⟩ => ?_)
    · obtain ⟨I', e, acc, as, E', x', hacc, hlen, hwe, p⟩ := hP
      obtain ⟨d, hdj, hx⟩ := hY j H' x H3 I' hj x' E'.ih hy
      have go : ∀ I3, Ex I' I3 → EnvI K (upd F D (.lst acc)) I0 I3 (wipe σ vs) H3 e → Dq K I3 x d → g x (wipe σ vs) H3 fun σ2 H2 => wipe σ2 vs = wipe σ vs ∧ tt σ2 H2 fun b H3 =>
          if b = true then te σ2 H3 fun y H4 => ∃ acc, H4 D = some (.lst acc) ∧ acc.length < sizeLine ∧ ∃ I' e acc' as, EnvI K (upd F D (.lst acc')) I0 I' (wipe σ vs) (upd H4 D (.lst (acc ++ [y]))) e ∧ Ex I1 I' ∧ DqAll K I' acc' as ∧ as.length ≤ j + 1 ∧ wipeE e vs = e ∧ Inv (j + 1) as e
          else ∃ I' e acc as, EnvI K (upd F D (.lst acc)) I0 I' (wipe σ vs) H3 e ∧ Ex I1 I' ∧ DqAll K I' acc as ∧ as.length ≤ j + 1 ∧ wipeE e vs = e ∧ Inv (j + 1) as e := fun I3 x3 E3 hxd => by
        refine hg (wipe σ vs) x (wipe σ vs) H3 _ (wipe_idem σ vs) (hs j d as e hdj p _ I0 I3 (wipe σ vs) H3 x E3 hxd _ fun σ2 e2 E2 r _ hw2 => ?_)
        · refine r _ I0 I3 σ2 H3 E2 _ fun I4 H4 b e4 E4 x4 hb => ?_
          cases b with
          | true =>
            rw [if_pos rfl] at hb ⊢
            refine hb _ I0 I4 σ2 H4 E4 _ fun y I5 H5 c e5 E5 x5 hy p5 => ?_
            have hH5 : H5 D = some (.lst acc) := E5.fh D _ upd_same
            have hIs : Ex I' I5 := (x3.trans x4).trans x5
            refine ⟨acc, hH5, Nat.lt_of_lt_of_le (by rw [dpA_len hacc]; exact Nat.lt_of_le_of_lt hlen hj) (Nat.le_trans hn (by decide)), I5, wipeE e5 vs, acc ++ [y], as ++ [c], ?_, x'.trans hIs, dpA_app (dpA_mono hIs hacc) (.cons hy .nil), by rw [List.length_append, List.length_singleton]; omega, wipeE_idem _ _, p5⟩
            have z := (E5.guardPut (o' := .lst (acc ++ [y])) h0D).wiped vs
            rw [hw2] at z
            exact z
          | false =>
            rw [if_neg Bool.false_ne_true] at hb ⊢
            have z := E4.wiped vs
            rw [hw2] at z
            exact ⟨I4, wipeE e4 vs, acc, as, z, x'.trans (x3.trans x4), dpA_mono (x3.trans x4) hacc, by omega, wipeE_idem _ _, hb⟩
      rcases hx with ⟨eH, hxd⟩ | ⟨T, o, hT, eH, hxd⟩
      · subst eH
        exact go I' (Ex.refl _) E' hxd
      · subst eH
        exact go _ (Ex.new (E'.ih.back hT)) (E'.newD hT) hxd
    · obtain ⟨hI, hH, E2⟩ := E'.unguard hF h0D
      have xn : Ex I' (upd I' D (.lst acc)) := Ex.new hI
      exact q (.ref D) _ H' (.list as) e E2.unwiped ((x1.trans x').trans xn) (.lst upd_same (dpA_mono xn hacc)) (hd as e p hwe)
end
end Lw

set_option Elab.async false
set_option linter.all false
set_option autoImplicit false
set_option maxRecDepth 100000
set_option maxHeartbeats 4000000

/-! ### enumerate(tuple), over the machine -/
namespace PySem
open Sem (wp)
theorem meets_enumerate_newB1 {v : Value} {o : Obj} {H : Heap → Prop} (B : Begins v o H) :
    Meets (Builtin.«enumerate.__new__» ⟨[.type "enumerate", v], []⟩) (fun _ R s => H s.heap ∧
      R (.ok (.ret (.ref (s.heap.push o).objs.size))) { s with heap := (s.heap.push o).push { cls := .type "enumerate", data := .fields #[.none, .bool false, .ref s.heap.objs.size, rawInt 0, .none, .none] } }) :=
  .of_wp fun prog w A R s h => by
    obtain ⟨hp, g, d, tk, os⟩ := s; obtain ⟨h1, h⟩ := h
    have hsub := sub_enumerate
    have q1 : ∀ {A' : Around} {E : Value → Shared → Prop} {Q : Value → Shared → Prop}, Q (.ref hp.objs.size) ⟨hp.push o, g, d, tk, os⟩ → wpAny (model prog w) A' (pyIter v) Q E ⟨hp, g, d, tk, os⟩ :=
      fun q => B.iter prog w _ _ ⟨hp, g, d, tk, os⟩ _ h1 q
    wp_walk using q1
    refine wpAny_stack_any fun st => wpAny_pure ?_
    split
    · rename_i c _ _ _ _ _
      cases (c == Value.type "enumerate")
      · wp_walk using q1
        exact ⟨_, rfl, h⟩
      · wp_walk using q1
        exact ⟨_, rfl, h⟩
    · wp_walk using q1
      exact ⟨_, rfl, h⟩
theorem enum_begins1 {prog : Program} {w : World} {A : Around} {E : Value → Shared → Prop} {s : Shared} {v : Value} {o : Obj} {H : Heap → Prop} {Q : Value → Shared → Prop} (B : Begins v o H) (h1 : H s.heap)
    (h : ∀ h', IsEnum h' (s.heap.objs.size + 1) s.heap.objs.size 0 .none → h'.get? s.heap.objs.size = some o → h'.objs.size = s.heap.objs.size + 2 →
      (∀ b o, s.heap.get? b = some o → h'.get? b = some o) → Q (.ref (s.heap.objs.size + 1)) { s with heap := h' }) :
    wpAny (model prog w) A (call (.type "enumerate") [v]) Q E s := by
  refine callType_new F.called_enumerate (by decide) (F.typeCall_enumerate_1 _) (F.newCall_enumerate_1 _) (fun obj => F.args_object_init_2 obj _) F.entry_enumerate_new
    (meets_enumerate_newB1 B) ⟨h1, ?_⟩
  have hz : (s.heap.push o).objs.size = s.heap.objs.size + 1 := Heap.size_push ..
  show _ ∧ _
  rw [hz]
  have he : IsEnum ((s.heap.push o).push { cls := .type "enumerate", data := .fields #[.none, .bool false, .ref s.heap.objs.size, rawInt 0, .none, .none] }) (s.heap.objs.size + 1) s.heap.objs.size 0 .none := by
    have := Heap.get?_push_size (s.heap.push o) (o := { cls := .type "enumerate", data := .fields #[.none, .bool false, .ref s.heap.objs.size, rawInt 0, .none, .none] }) rfl
    rw [hz] at this; exact this
  refine ⟨⟨_, he, rfl⟩, h _ he (Heap.get?_push_of_some _ (Heap.get?_push_size _ B.free)) (by rw [Heap.size_push, hz]) fun b o x => Heap.get?_push_of_some _ (Heap.get?_push_of_some _ x)⟩
end PySem
namespace L2
open PySem PySem.Spec PyProof.Rows
/-- the tuple at a, each item in a new pair, counted from k0 -/
def IteT (K : PySem.W.Frag) (k0 : Int) (a : Addr) : It :=
  ⟨fun i H => ∃ (xs : List V) (x : V), SqT K H a xs ∧ xs[i]? = some x, fun i H v H' => ∃ T x, v = .ref T ∧ H T = none ∧ H' = upd H T (.tup [.int (k0 + (i : Nat)), x]) ∧ ∀ xs, SqT K H a xs → xs[i]? = some x, fun i H => ∃ xs : List V, SqT K H a xs ∧ xs.length ≤ i⟩
theorem turn_enumT {P : Program} {w : World} {K : PySem.W.Frag} {elts : List Expr} {kk : Nat} {tpos : Pos} (k0 : Int) (a e it : Addr) :
    Turn P w K (.Tuple elts kk tpos) (IteT K k0 a) [e, it] e (fun i h => (∃ old, IsEnum h e it (k0 + ((i : Nat) : Int)) old) ∧ h.IsTupleIter it a i ∧ e ≠ it) where
  mem := by simp
  obj := fun i h st b hb => by
    obtain ⟨⟨old, he⟩, ⟨o, ho, hc, hd⟩, _⟩ := st
    have e' : b = e ∨ b = it := by simpa using hb
    rcases e' with z | z
    · rw [z]; exact ⟨_, he, fun v q => nomatch q⟩
    · rw [z]; exact ⟨o, ho, fun v q => by rw [hd] at q; cases q⟩
  keep := fun i h h' st k => let ⟨⟨old, he⟩, hi, hne⟩ := st; ⟨⟨old, k e (by simp) _ he⟩, hi.at fun o q => k it (by simp) o q, hne⟩
  item := by
    intro X hP hw hK hc i pins s σ H E I hf st hg
    subst hP hw hK
    obtain ⟨⟨old, he⟩, hit, hne⟩ := st
    obtain ⟨xs, x, hq, hx⟩ := hg
    obtain ⟨its, rv, p, hz⟩ := I.tuple hq
    obtain ⟨u, hu, ru⟩ := rv.get hx
    have hT0 : s.heap.IsTuple a its.toArray := p
    have hel : e < s.heap.objs.size := Heap.lt_size he
    have hil : it < s.heap.objs.size := by obtain ⟨_, q, _⟩ := hit; exact Heap.lt_size q
    have hai : a ≠ it := fun z => by
      obtain ⟨o1, e1, c1, _⟩ := hT0
      obtain ⟨o2, e2, c2, _⟩ := hit
      rw [z, e2] at e1
      cases e1
      exact absurd (Value.type.inj (c1.symm.trans c2)) (by decide)
    have hae : a ≠ e := fun z => by
      obtain ⟨o1, e1, c1, _⟩ := hT0
      rw [z, he] at e1
      cases e1
      exact absurd (Value.type.inj c1) (by decide)
    have hlt : i < its.toArray.size := by
      have h1 := (List.getElem?_eq_some_iff.mp hu).1
      simpa using h1
    have D : Draws X.prog X.w X.A.in1 it [it, a] its.toArray.size (fun i v => its.toArray[i]? = some v) (fun i h => h.IsTupleIter it a i ∧ h.IsTuple a its.toArray) := Draws.tuple (show X.A.in1.handled = none from I.ok.hd hc) it a hai its.toArray
    refine wpAny_pyNext_enum_itemC D he ⟨hit, hT0⟩ hlt hne (by simp [hne, Ne.symm hae]) fun x2 h' tk hP2 ho hst' hT hsz hk => ?_
    have ex : x2 = u := by
      have h1 : its.toArray[i]? = some u := by simpa using hu
      rw [h1] at hP2
      exact (Option.some.inj hP2).symm
    subst ex
    refine ⟨_, rfl, wpAny_letOwnedTupleGo_enum (s := { s with heap := h', toks := tk + 1 }) ho fun h'' he' sb => ?_⟩
    have hT2 : h''.get? s.heap.objs.size = some { cls := .type "tuple", data := .seq #[.int (k0 + (i : Int)) tk, x2] } := (sb.2 _ (Nat.ne_of_gt hel)).trans hT
    have new : ObjOk X.prog X.w (upd H s.heap.objs.size (.tup [.int (k0 + (i : Nat)), x])) h'' s.heap.objs.size (.tup [.int (k0 + (i : Nat)), x]) :=
      ⟨by show 2 ≤ sizeLine; decide, [.int (k0 + (i : Int)) tk, x2], .cons ⟨_, rfl⟩ (.cons ru .nil), ⟨_, hT2, rfl, _, rfl⟩⟩
    have I1 : Inv X pins σ (upd H s.heap.objs.size (.tup [.int (k0 + (i : Nat)), x])) { s with heap := h'', toks := tk + 1 } :=
      I.turnedNew (ch := [e, it]) (fun b ob hb q => (sb.2 b (fun z => hb (by simp [z]))).trans (hk b ob (fun z => hb (by simp [z])) (fun z => hb (by simp [z])) q)) hf (Nat.le_refl _) new
    refine ⟨.ref s.heap.objs.size, _, I1, rfl, ⟨_, x, rfl, I.hok.fresh (Nat.le_refl _), rfl, fun ys hy => by rw [I.tuple_inj hy hq]; exact hx⟩, ⟨⟨x2, ?_⟩, hst'.1.at fun o q => (sb.2 it (Ne.symm hne)).trans q, hne⟩, fun b hb => ?_⟩
    · have e1 : k0 + ((i + 1 : Nat) : Int) = k0 + (i : Int) + 1 := by omega
      rw [e1]; exact he'
    · have hb' : b < s.heap.objs.size := by
        have e' : b = e ∨ b = it := by simpa using hb
        rcases e' with z | z
        · rw [z]; exact hel
        · rw [z]; exact hil
      rw [upd_ne (Nat.ne_of_lt hb')]
      exact (hf b hb).1
  done := by
    intro X hP hw hK hc i pins s σ H E I hf st hg
    subst hP hw hK
    obtain ⟨⟨old, he⟩, hit, hne⟩ := st
    obtain ⟨xs, hq, hx⟩ := hg
    obtain ⟨its, rv, p, hz⟩ := I.tuple hq
    obtain ⟨f0, f1, f2, f3, f4, f5⟩ := hf it (by simp)
    have hT0 : s.heap.IsTuple a its.toArray := p
    have hai : a ≠ it := fun z => by
      obtain ⟨o1, e1, c1, _⟩ := hT0
      obtain ⟨o2, e2, c2, _⟩ := hit
      rw [z, e2] at e1
      cases e1
      exact absurd (Value.type.inj (c1.symm.trans c2)) (by decide)
    have hl := rv.length
    have hh1 : X.A.in1.handled = none := I.ok.hd hc
    have D : Draws X.prog X.w X.A.in1 it [it, a] i (fun _ _ => False) (fun j h => j = i ∧ h.IsTupleIter it a i ∧ h.IsTuple a its.toArray) :=
      { live := fun _ _ st => let ⟨o, ho, _⟩ := st.2.1; ⟨o, ho⟩
        frame := fun _ _ _ st hk => ⟨st.1, st.2.1.at fun o e => hk it (by simp) o e, st.2.2.at fun o e => hk a (by simp) o e⟩
        item := fun j s Q E hj st hQ => absurd st.1 (Nat.ne_of_lt hj)
        done := fun s Q E st hE => wpAny_nextOf_tuple_end hh1 st.2.1 st.2.2 (by simp; omega) hE }
    exact wpAny_pyNext_enum_endD D he ⟨rfl, hit, hT0⟩ fun h' eb => ⟨rfl, I.turned (t' := s.toks) (fun b o hb q => eb b o hb q) f0 f1 f3 f4 f5⟩
  self := fun A i s Q E st h => let ⟨⟨_, he⟩, _⟩ := st; wpAny_pyIter_enum he h
end L2

set_option Elab.async false
set_option linter.all false
set_option autoImplicit false
set_option maxRecDepth 100000
set_option maxHeartbeats 4000000
namespace Lw
open PySem PySem.Spec PyProof.Rows L2
/-! ### enumerate(tuple) -/
def iEnumT (K : PySem.W.Frag) (ta : TA) : TI := fun σ H R => ta σ H fun vs H1 => ∃ a xs, vs = [V.ref a] ∧ SqT K H1 a xs ∧ R (IteT K 0 a) H1
theorem pi_enumT {X : Cx} {e : Expr} {ta : TA} {p pos tpos : Pos} {elts : List Expr} {kk : Nat} (hg : Gl X "enumerate") (hm : X.mg "enumerate" = none) (ha : PA X [e] ta) (hs : starEach [e] X.env = [(false, eval e X.env)] := by rfl) :
    PI X (.Tuple elts kk tpos) (.Call (.Name "enumerate" p) [e] [] pos) (iEnumT X.K ta) := by
  refine ⟨fun pins s σ H R I h => ?_⟩
  refine Call_ (ld_blt I hg hm boot_enumerate (PyProof.Rows.callWith_type1 (thn (ha.run pos pins s σ H _ I h) fun us s1 ⟨vs, H1, I1, r1, q1⟩ => ?_) hs rfl))
  obtain ⟨a, xs, ex, hq, q⟩ := q1
  subst ex
  cases r1 with
  | cons r rr =>
    cases rr
    cases r
    obtain ⟨its, rv, p', hz⟩ := I1.tuple hq
    have hT : s1.heap.IsTuple a its.toArray := p'
    refine enum_begins1 (begins_tuple a its.toArray) hT fun h' he hit hsz hk => wpAny_pyIter_enum he ?_
    have I2 : Inv X pins σ H1 { s1 with heap := h' } := I1.kept (t' := s1.toks) hk
    have he0 : IsEnum h' (s1.heap.objs.size + 1) s1.heap.objs.size ((0 : Int) + ((0 : Nat) : Int)) .none := he
    refine ⟨s1.heap.objs.size + 1, [s1.heap.objs.size + 1, s1.heap.objs.size], _, _, H1, rfl, I2, turn_enumT 0 a (s1.heap.objs.size + 1) s1.heap.objs.size, ⟨⟨.none, he0⟩, ⟨_, hit, rfl, rfl⟩, Nat.succ_ne_self _⟩, fun b hb => ?_, q⟩
    have e' : b = s1.heap.objs.size + 1 ∨ b = s1.heap.objs.size := by simpa using hb
    have hle : s1.heap.objs.size ≤ b := by
      rcases e' with z | z
      · rw [z]; exact Nat.le_add_right _ _
      · rw [z]; exact Nat.le_refl _
    exact I1.fpOk hle (I1.hok.fresh hle)
theorem walk_enumT {K : PySem.W.Frag} {k0 : Int} {a : Addr} {xs : List V} : Walk (IteT K k0 a) xs.length (fun H => SqT K H a xs) (YPair (fun i => some (.int (k0 + (i : Nat)))) (fun i => xs[i]?)) := by
  refine ⟨fun i _ hi q => ⟨xs, xs[i], q, by simp [hi]⟩, fun _ q => ⟨xs, q, Nat.le_refl _⟩, fun i H v H' _ q y => ?_⟩
  obtain ⟨T, x, h1, h2, h3, h4⟩ := y
  exact ⟨T, .int (k0 + (i : Nat)), x, h1, h2, h3, rfl, h4 xs q⟩
/-- the pairs of an enumerate -/
def pairsD (k0 : Int) (ds : List PyData) : List PyData := ds.mapIdx fun (i : Nat) d => .tuple [.int (k0 + (i : Int)), d]
theorem pairsD_len (k0 : Int) (ds : List PyData) : (pairsD k0 ds).length = ds.length := by simp [pairsD]
theorem pairsD_get {k0 : Int} {ds : List PyData} {j : Nat} {p : PyData} (h : (pairsD k0 ds)[j]? = some p) : ∃ d, ds[j]? = some d ∧ p = .tuple [.int (k0 + (j : Int)), d] := by
  unfold pairsD at h
  rw [List.getElem?_mapIdx] at h
  cases e : ds[j]? with
  | none => rw [e] at h; cases h
  | some d =>
    rw [e] at h
    exact ⟨d, rfl, (Option.some.inj h).symm⟩
section
variable {K : PySem.W.Frag} {te ta tb tc : TE} {tt : TT} {tr : TA} {t u : TS} {env : Env} {d a b c : PyData} {as : List PyData} {P : Post} {i : Nat}
theorem ew_enumT {ds : List PyData} (h : EvPA K tr env [.tuple ds]) : EvW K (iEnumT K tr) env (pairsD 0 ds) := fun F I0 I σ H E R q =>
  h F I0 I σ H E _ fun vs I1 H1 d e E1 x1 hd ⟨e1, e2⟩ => by
    subst e1 e2
    cases hd with
    | cons hd h2 =>
      cases h2
      obtain ⟨a, xs, rfl, hs, hds⟩ := dp_tup hd
      have hl := dpA_len hds
      refine ⟨a, xs, rfl, E1.ih.t hs, q _ I1 H1 _ _ E1 x1 (by rw [pairsD_len, ← hl]; exact walk_enumT (K := K) (a := a) (xs := xs)) (fun H2 x => x.t hs) fun j H2 x H3 I2 hj x2 x3 y => ?_⟩
      obtain ⟨T, y1, y2, ev, hT, eH, g1, g2⟩ := y
      cases g1
      subst ev eH
      rw [pairsD_len] at hj
      obtain ⟨w, hw, hwd⟩ := dpA_get hds (List.getElem?_eq_getElem hj)
      have g2' : xs[j]? = some y2 := g2
      rw [hw] at g2'
      cases g2'
      refine ⟨.tuple [.int (0 + (j : Int)), ds[j]], ?_, .inr ⟨T, _, hT, rfl, ?_⟩⟩
      · unfold pairsD
        rw [List.getElem?_mapIdx, List.getElem?_eq_getElem hj]
        rfl
      · have x4 : Ex I2 (upd I2 T (.tup [.int (0 + (j : Int)), y2])) := Ex.new (x3.back hT)
        exact .tup (.inl (.inl upd_same)) (.cons (.int _) (.cons (dp_mono (x2.trans x4) hwd) .nil))
/-! ### built-in calls on data -/
def lenD : PyData → Option Nat
  | .str z => if z.length ≤ 100000 then some z.length else none
  | .list ds | .tuple ds => some ds.length
  | _ => none
theorem rc_len {n : Nat} (h : lenD d = some n) : RC K (fun xs H Q => ∃ x n, xs = [x] ∧ LenV K x H n ∧ Q (.int n) H) [d] (.int n) := fun I H xs e hx Q q _ => by
  cases hx with
  | cons h1 h2 =>
    cases h2
    refine ⟨_, n, rfl, ?_, q _ (.int _)⟩
    cases h1 with
    | non => cases h
    | bl b => cases h
    | int i => cases h
    | str z =>
      by_cases hz : z.length ≤ 100000
      · have h' : some z.length = some n := by rw [← h]; exact (if_pos hz).symm
        cases h'
        exact ⟨Nat.le_trans hz (by decide), rfl⟩
      · have h' : none = some n := by rw [← h]; exact (if_neg hz).symm
        cases h'
    | lst h1 h2 => cases h; exact .inl ⟨_, e.l (.inl (.inl h1)), (dpA_len h2).symm⟩
    | tup h1 h2 => cases h; exact .inr ⟨_, e.t h1, (dpA_len h2).symm⟩
theorem dpA_bools {I : Hp} : ∀ {vs : List V} {bs : List Bool}, DqAll K I vs (bs.map .bool) → vs = bs.map V.bl
  | _, [], h => by cases h; rfl
  | _, b :: bs, h => by
    cases h with
    | cons h1 h2 =>
      rw [dp_bl h1, dpA_bools h2]
      rfl
theorem rc_all {bs : List Bool} : RC K (rAll K) [.list (bs.map .bool)] (.bool (bs.all id)) := fun I H xs e hx Q q _ => by
  cases hx with
  | cons h1 h2 =>
    cases h2
    obtain ⟨p, ys, rfl, hp, hd⟩ := dp_lst h1
    have ez := dpA_bools hd
    subst ez
    exact ⟨p, bs, rfl, .inl (.inl (e _ _ hp)), q _ (.bl _)⟩
def rTupOf (K : PySem.W.Frag) : List V → Hp → VK → Prop := fun xs H Q => ∃ p ys, xs = [.ref p] ∧ ((SqL K H p ys ∧ ∀ l, H l = none → Q (.ref l) (upd H l (.tup ys))) ∨ (SqT K H p ys ∧ Q (.ref p) H))
def rLstOf (K : PySem.W.Frag) : List V → Hp → VK → Prop := fun xs H Q => ∃ p ys, xs = [.ref p] ∧ (SqL K H p ys ∨ SqT K H p ys) ∧ ∀ l, H l = none → Q (.ref l) (upd H l (.lst ys))
theorem rc_tupL {ds : List PyData} : RC K (rTupOf K) [.list ds] (.tuple ds) := fun I H xs e hx Q _ q2 => by
  cases hx with
  | cons h1 h2 =>
    cases h2
    obtain ⟨p, ys, rfl, hp, hd⟩ := dp_lst h1
    exact ⟨p, ys, rfl, .inl ⟨.inl (.inl (e _ _ hp)), fun l hl => q2 l _ hl (.tup (.inl (.inl upd_same)) (dpA_mono (Ex.new (e.back hl)) hd))⟩⟩
theorem rc_lstT {ds : List PyData} : RC K (rLstOf K) [.tuple ds] (.list ds) := fun I H xs e hx Q _ q2 => by
  cases hx with
  | cons h1 h2 =>
    cases h2
    obtain ⟨p, ys, rfl, hp, hd⟩ := dp_tup h1
    exact ⟨p, ys, rfl, .inr (e.t hp), fun l hl => q2 l _ hl (.lst upd_same (dpA_mono (Ex.new (e.back hl)) hd))⟩
/-- x = list(t): a list of one's own -/
theorem run_ownT {ds : List PyData} (h : EvP K te env (.tuple ds)) (k : ∀ p, P.nx (env.set i (some (.lst p ds)))) : Run K (tAsg (tCB (rLstOf K) (tCons te tNil)) (gName i)) env P := fun F I0 I σ H D E A =>
  h F I0 I σ H E _ fun v I1 H1 d e E1 _ hd ⟨e1, e2⟩ => by
    subst e1 e2
    obtain ⟨p, ys, rfl, hp, hds⟩ := dp_tup hd
    exact ⟨p, ys, rfl, .inr (E1.ih.t hp), fun l hl => A.nx I1 _ _ _ (E1.setC (x := .lst l ds) i hl ⟨rfl, E1.fh.back hl, E1.ih.back hl, ys, upd_same, hds⟩) (k l)⟩
/-- x = [a, b, ..]: a list of one's own -/
theorem run_ownL {ds : List PyData} (h : EvPA K tr env ds) (hl : ds.length ≤ 100000) (k : ∀ p, P.nx (env.set i (some (.lst p ds)))) : Run K (tAsg (tLst tr) (gName i)) env P := fun F I0 I σ H D E A =>
  h F I0 I σ H E _ fun vs I1 H1 d e E1 _ hd ⟨e1, e2⟩ => by
    subst e1 e2
    refine ⟨Nat.le_trans (by rw [dpA_len hd]; exact hl) (by decide), fun l hl => A.nx I1 _ _ _ (E1.setC (x := .lst l _) i hl ⟨rfl, E1.fh.back hl, E1.ih.back hl, vs, upd_same, hd⟩) (k l)⟩
/-- tuple(xs), xs one's own -/
theorem ep_tupOwn {a : Addr} {ds : List PyData} (h : env[i]? = some (some (.lst a ds))) : EvP K (tCB (rTupOf K) (tCons (tVar i) tNil)) env (.tuple ds) := fun F I0 I σ H E Q q => by
  obtain ⟨v, h1, rfl, hf, hi, xs, hh, hd⟩ := E.at_ i _ h
  exact ⟨.ref a, h1, a, xs, rfl, .inl ⟨.inl (.inl hh), fun l hl => q _ _ _ _ env (E.newD hl) (Ex.new (E.ih.back hl)) (.tup (.inl (.inl upd_same)) (dpA_mono (Ex.new (E.ih.back hl)) hd)) ⟨rfl, rfl⟩⟩⟩
theorem rc_max2 {x y : Int} : RC K (fun xs H Q => ∃ i j, xs = [.int i, .int j] ∧ Q (.int (if j > i then j else i)) H) [.int x, .int y] (.int (if y > x then y else x)) := fun I H xs e hx Q q _ => by
  cases hx with
  | cons h1 h2 =>
    cases h2 with
    | cons h2 h3 =>
      cases h3
      cases dp_int h1
      cases dp_int h2
      exact ⟨x, y, rfl, q _ (.int _)⟩
theorem rc_min2 {x y : Int} : RC K (fun xs H Q => ∃ i j, xs = [.int i, .int j] ∧ Q (.int (if j < i then j else i)) H) [.int x, .int y] (.int (if y < x then y else x)) := fun I H xs e hx Q q _ => by
  cases hx with
  | cons h1 h2 =>
    cases h2 with
    | cons h2 h3 =>
      cases h3
      cases dp_int h1
      cases dp_int h2
      exact ⟨x, y, rfl, q _ (.int _)⟩
theorem rc_int1 {p : Bool} : RC K (fun xs H Q => (∃ i, xs = [.int i] ∧ Q (.int i) H) ∨ ∃ k, xs = [.bl k] ∧ Q (.int (if k then 1 else 0)) H) [.bool p] (.int (if p then 1 else 0)) := fun I H xs e hx Q q _ => by
  cases hx with
  | cons h1 h2 =>
    cases h2
    cases dp_bl h1
    exact .inr ⟨p, rfl, q _ (.int _)⟩
/-! ### isinstance -/
def tyD : PyData → String
  | .none => "NoneType"
  | .bool _ => "bool"
  | .int _ => "int"
  | .str _ => "str"
  | .list _ => "list"
  | .tuple _ => "tuple"
  | .dict _ => "dict"
theorem tyx_of {H : Hp} {v : V} (h : Dq K H v d) : TyX K H v (.type (tyD d)) := by
  cases h with
  | non => exact .base .non
  | bl b => exact .base (.bl b)
  | int i => exact .base (.int i)
  | str x => exact .base (.str x)
  | lst h1 _ => exact .base (.lst h1)
  | tup h1 _ =>
    rcases h1 with (h1 | ⟨o, h1⟩) | ⟨o, its, n, h1, h2, _⟩
    · exact .base (.tup h1)
    · exact .fTuple h1
    · exact .kTuple h1 h2
theorem ep_isi {T : String} {r : Bool} (h : EvP K te env d) (hk : kitB (tyD d) T = some r) : EvP K (tCB (rIsi K) (tCons te (tCons (tC (.ty T)) tNil))) env (.bool r) := fun F I0 I σ H E Q q =>
  h F I0 I σ H E _ fun v I1 H1 d' e E1 x1 hd ⟨e1, e2⟩ => by
    subst e1 e2
    exact ⟨v, .ty T, _, _, r, rfl, .ty T, tyx_of (dp_mono E1.ih hd), kit_ty hk, q _ I1 H1 _ _ E1 x1 (.bl _) ⟨rfl, rfl⟩⟩
/-! ### chains -/
theorem ep_chain {r r' : R2} {p q : Bool} (ha : EvP K ta env a) (hb : EvP K tb env b) (h1 : RD K r a b (.bool p)) (hc : p = true → EvP K tc env c ∧ RD K r' b c (.bool q)) : EvP K (tChain r r' ta tb tc) env (.bool (p && q)) := fun F I0 I σ H E Q k =>
  ha F I0 I σ H E _ fun x I1 H1 d1 e1 E1 x1 hx ⟨z1, z2⟩ => by
    subst z1 z2
    refine hb F I0 I1 σ H1 E1 _ fun y I2 H2 d2 e2 E2 x2 hy ⟨z3, z4⟩ => ?_
    subst z3 z4
    refine h1 I2 H2 x y E2.ih (dp_mono x2 hx) hy _ (fun v hv => ?_) (fun p o hp hv => by cases hv)
    cases dp_bl hv
    refine ⟨p, rfl, ?_⟩
    cases p with
    | false => exact k _ I2 H2 _ _ E2 (x1.trans x2) (.bl false) ⟨rfl, rfl⟩
    | true =>
      obtain ⟨g1, g2⟩ := hc rfl
      refine g1 F I0 I2 σ H2 E2 _ fun w I3 H3 d3 e3 E3 x3 hw ⟨z5, z6⟩ => ?_
      subst z5 z6
      exact g2 I3 H3 y w E3.ih (dp_mono x3 hy) hw _ (fun v hv => k v I3 H3 _ _ E3 ((x1.trans x2).trans x3) hv ⟨rfl, rfl⟩) fun p o hp hv => by cases hv
/-! ### slices -/
def EvPO (K : PySem.W.Frag) (to : TO) (env : Env) (o : Option Int) : Prop :=
  ∀ (F I0 I : Hp) (σ : L2.St) (H : Hp), EnvI K F I0 I σ H env → ∀ Q : Option Int → Hp → Prop, (∀ (I' H' : Hp), EnvI K F I0 I' σ H' env → Ex I I' → Q o H') → to σ H Q
theorem eo_none : EvPO K tNoPart env none := fun F I0 I σ H E Q q => q I H E (Ex.refl I)
theorem eo_some {x : Int} (h : EvP K te env (.int x)) : EvPO K (tPart te) env (some x) := fun F I0 I σ H E Q q =>
  h F I0 I σ H E _ fun v I1 H1 d e E1 x1 hd ⟨e1, e2⟩ => by
    subst e1 e2
    exact ⟨x, dp_int hd, q I1 H1 E1 x1⟩
def RSl (K : PySem.W.Frag) (r : V → Option Int → Option Int → Hp → VK → Prop) (a : PyData) (lo hi : Option Int) (c : PyData) : Prop := ∀ (I H : Hp) (x : V), Ex I H → Dq K I x a → ∀ Q : VK,
  (∀ v, Dq K I v c → Q v H) → (∀ (p : Addr) (o : HO), H p = none → Dq K (upd I p o) (.ref p) c → Q (.ref p) (upd H p o)) → r x lo hi H Q
theorem ep_sl {r : V → Option Int → Option Int → Hp → VK → Prop} {tl th : TO} {lo hi : Option Int} (h : EvP K te env a) (hl : EvPO K tl env lo) (hh : EvPO K th env hi) (hr : RSl K r a lo hi c) : EvP K (tSl r te tl th) env c := fun F I0 I σ H E Q q =>
  h F I0 I σ H E _ fun x I1 H1 d1 e1 E1 x1 hx ⟨z1, z2⟩ => by
    subst z1 z2
    refine hl F I0 I1 σ H1 E1 _ fun I2 H2 E2 x2 => hh F I0 I2 σ H2 E2 _ fun I3 H3 E3 x3 => ?_
    exact hr I3 H3 x E3.ih (dp_mono (x2.trans x3) hx) Q (fun v hv => q v I3 H3 _ _ E3 ((x1.trans x2).trans x3) hv ⟨rfl, rfl⟩) fun p o hp hv =>
      q (.ref p) _ _ _ _ (E3.newD hp) (((x1.trans x2).trans x3).trans (Ex.new (E3.ih.back hp))) hv ⟨rfl, rfl⟩
def cutD (ds : List PyData) (lo hi : Option Int) : List PyData := (ds.drop (HT.sIx ds.length 0 lo)).take (HT.sIx ds.length ds.length hi - HT.sIx ds.length 0 lo)
theorem rsl_tup {ds : List PyData} {lo hi : Option Int} : RSl K (rSlA K) (.tuple ds) lo hi (.tuple (cutD ds lo hi)) := fun I H x e hx Q q q2 => by
  obtain ⟨p, xs, rfl, hs, hd⟩ := dp_tup hx
  have hl := dpA_len hd
  refine ⟨p, xs, rfl, e.t hs, fun z => ?_, fun _ l hn => q2 l _ hn (.tup (.inl (.inl upd_same)) (dpA_mono (Ex.new (e.back hn)) (dpA_cut lo hi hd)))⟩
  have ez : cutD ds lo hi = ds := by
    rw [hl] at z
    unfold cutD
    rw [z.1, z.2]
    simp
  rw [ez] at q
  exact q _ hx
theorem rsl_lst {ds : List PyData} {lo hi : Option Int} : RSl K (rSlL K) (.list ds) lo hi (.list (cutD ds lo hi)) := fun I H x e hx Q q q2 => by
  obtain ⟨p, xs, rfl, hs, hd⟩ := dp_lst hx
  exact ⟨p, xs, rfl, .inl (.inl (e _ _ hs)), fun l hn => q2 l _ hn (.lst upd_same (dpA_mono (Ex.new (e.back hn)) (dpA_cut lo hi hd)))⟩
/-! ### methods of texts, of lists -/
theorem ep_m0 {r : V → List V → Hp → VK → Prop} {z : Str} (h : EvP K te env (.str z)) (hr : RM K r (.str z) [] c) : EvP K (tM0 r te) env c := fun F I0 I σ H E Q q =>
  h F I0 I σ H E _ fun x I1 H1 d1 e1 E1 x1 hx ⟨z1, z2⟩ => by
    subst z1 z2
    exact ⟨⟨z, dp_str hx⟩, hr I1 H1 x [] E1.ih hx .nil Q (fun v hv => q v I1 H1 _ _ E1 x1 hv ⟨rfl, rfl⟩) fun p o hp hv => q (.ref p) _ _ _ _ (E1.newD hp) (x1.trans (Ex.new (E1.ih.back hp))) hv ⟨rfl, rfl⟩⟩
theorem ep_m1 {r : V → List V → Hp → VK → Prop} {z : Str} (h : EvP K te env (.str z)) (h1 : EvP K ta env a) (hr : RM K r (.str z) [a] c) : EvP K (tM1 r te ta) env c := fun F I0 I σ H E Q q =>
  h F I0 I σ H E _ fun x I1 H1 d1 e1 E1 x1 hx ⟨z1, z2⟩ => by
    subst z1 z2
    refine ⟨⟨z, dp_str hx⟩, h1 F I0 I1 σ H1 E1 _ fun y I2 H2 d2 e2 E2 x2 hy ⟨z3, z4⟩ => ?_⟩
    subst z3 z4
    exact hr I2 H2 x [y] E2.ih (dp_mono x2 hx) (.cons hy .nil) Q (fun v hv => q v I2 H2 _ _ E2 (x1.trans x2) hv ⟨rfl, rfl⟩) fun p o hp hv => q (.ref p) _ _ _ _ (E2.newD hp) ((x1.trans x2).trans (Ex.new (E2.ih.back hp))) hv ⟨rfl, rfl⟩
theorem rm_b {C : Str → Prop} {g : Str → Bool} {z : Str} (hc : C z) : RM K (fun x xs H Q => ∃ a, x = .str a ∧ xs = [] ∧ C a ∧ Q (.bl (g a)) H) (.str z) [] (.bool (g z)) := fun I H x xs e hx hxs Q q _ => by
  cases dp_str hx
  cases hxs
  exact ⟨z, rfl, rfl, hc, q _ (.bl _)⟩
theorem rm_s {C : Str → Prop} {g : Str → Str} {z : Str} (hc : C z) : RM K (fun x xs H Q => ∃ a, x = .str a ∧ xs = [] ∧ C a ∧ Q (.str (g a)) H) (.str z) [] (.str (g z)) := fun I H x xs e hx hxs Q q _ => by
  cases dp_str hx
  cases hxs
  exact ⟨z, rfl, rfl, hc, q _ (.str _)⟩
end
end Lw

set_option Elab.async false
set_option linter.all false
set_option autoImplicit false
set_option maxRecDepth 100000
set_option maxHeartbeats 4000000
namespace Lw
open PySem PySem.Spec PyProof.Rows L2
/-! ### defs of the text, by name -/
/-- the def st stands under the name x -/
structure DefAt (K : PySem.W.Frag) (mg : Str → Option Value) (x : Str) (st : Stmt) (ps : List Str) : Prop where
  ex : ∃ (f : Addr) (fd : FuncData), L2.Fun K x x st f fd ∧ mg x = some (.ref f) ∧ Binds K fd ps []
/-- it keeps a promise -/
structure Cal (P : Program) (w : World) (K : PySem.W.Frag) (mg : Str → Option Value) (base : Heap) (k : Nat) (x : Str) (sp : Sp) : Prop where
  ex : ∃ (f : Addr) (fd : FuncData) (ps : List Str), FnOk P w K mg base L2.CX0 k f fd ps sp ∧ mg x = some (.ref f) ∧ PySem.W.keepIn K (.ref f) = true ∧ Binds K fd ps []
section
variable {P : Program} {w : World} {K : PySem.W.Frag} {mg : Str → Option Value} {base : Heap}
theorem DefAt.cal {x : Str} {st : Stmt} {N ps : List Str} {k : Nat} {sp : Sp} (D : DefAt K mg x st ps) (S : FnScope N ps (defScope st)) (len : ∀ vs H Q E, sp vs H Q E → vs.length = ps.length)
    (hbody : ∀ (f : Addr) (cdv : Value) (A : Around) (outer : List PySem.Env) (s : Shared) (H : Hp) (vs : List V) (Q : VK) (E : XK), Room k (A.deeper (envOfC x (defScope st) s.heap.objs.size f cdv)) → sp vs H Q E →
      ∃ t, PSs (cxOf L2.CX0 P w K mg base N x (defScope st) f cdv A outer s H E).nox (defBody st) t ∧ t { nx := fun _ H' => Q .non H', rt := Q } (start N vs) H) : Cal P w K mg base (k + 1) x sp := by
  obtain ⟨f, fd, F, hm, hb⟩ := D.ex
  exact ⟨f, fd, ps, F.ok S len (fun cdv A outer s H vs Q E hr h => hbody f cdv A outer s H vs Q E hr h), hm, F.kp, hb⟩
/-- a def on data -/
theorem DefAt.calD {x : Str} {st : Stmt} {N ps : List Str} {k : Nat} {Pre : List PyData → Prop} {Ps : List PyData → PyData → Prop} (D : DefAt K mg x st ps) (S : FnScope N ps (defScope st)) (len : ∀ ds, Pre ds → ds.length = ps.length)
    (hbody : ∀ (f : Addr) (cdv : Value) (A : Around) (outer : List PySem.Env) (s : Shared) (H : Hp) (E : XK), Room k (A.deeper (envOfC x (defScope st) s.heap.objs.size f cdv)) →
      ∃ t, PSs (cxOf L2.CX0 P w K mg base N x (defScope st) f cdv A outer s H E).nox (defBody st) t ∧
        ∀ ds, Pre ds → Run K t (ds.map (fun d => some (.dat d)) ++ List.replicate (N.length - ds.length) none) ⟨fun _ => Ps ds .none, fun d _ => Ps ds d, fun _ => False, fun _ => False⟩) : Cal P w K mg base (k + 1) x (spD K Pre Ps) :=
  D.cal S (fun vs H Q E h => by
    obtain ⟨I, ds, _, hv, hp, _⟩ := h
    rw [dpA_len hv]
    exact len ds hp) fun f cdv A outer s H vs Q E hr h => by
    obtain ⟨t, h1, h2⟩ := hbody f cdv A outer s H E hr
    exact ⟨t, h1, body_D h fun ds hp _ => h2 ds hp⟩
/-- a def whose first argument is the purse -/
theorem DefAt.calU {x : Str} {st : Stmt} {N ps : List Str} {k cost : Nat} {Pre : List PyData → Prop} {Ps : List PyData → PyData → Prop} (D : DefAt K mg x st ps) (S : FnScope N ps (defScope st)) (len : ∀ ds, Pre ds → ds.length + 1 = ps.length)
    (hbody : ∀ (f : Addr) (cdv : Value) (A : Around) (outer : List PySem.Env) (s : Shared) (H : Hp) (E : XK), Room k (A.deeper (envOfC x (defScope st) s.heap.objs.size f cdv)) →
      ∃ t, PSs (cxOf L2.CX0 P w K mg base N x (defScope st) f cdv A outer s H E).nox (defBody st) t ∧
        ∀ p n ds, Pre ds → Run K t (some (.prs p (n + cost)) :: (ds.map (fun d => some (.dat d)) ++ List.replicate (N.length - (ds.length + 1)) none)) ⟨fun e => (∃ m, n ≤ m ∧ e[0]? = some (some (.prs p m))) ∧ Ps ds .none, fun d e => (∃ m, n ≤ m ∧ e[0]? = some (some (.prs p m))) ∧ Ps ds d, fun _ => False, fun _ => False⟩) : Cal P w K mg base (k + 1) x (spU K cost Pre Ps) :=
  D.cal S (fun vs H Q E h => by
    obtain ⟨p, n, xs, I, ds, rfl, _, _, _, hv, hp, _⟩ := h
    rw [List.length_cons, dpA_len hv]
    exact len ds hp) fun f cdv A outer s H vs Q E hr h => by
    obtain ⟨t, h1, h2⟩ := hbody f cdv A outer s H E hr
    exact ⟨t, h1, body_U h fun p n ds hp _ => h2 p n ds hp⟩
end
section
variable {X : Cx} {k j : Nat} {x : Str} {sp : Sp} {p pos : Pos} {e : Expr} {es : List Expr} {t : TA}
theorem pe_d (c : Cal X.prog X.w X.K X.mg X.base k x sp) (hr : Room j X.A) (hk : k ≤ j) (hg : Gl X x) (ha : PA X (e :: es) t)
    (hdb : (x == ("__debug__" : Str)) = false := by decide) (he : starEach (e :: es) X.env = (false, eval e X.env) :: starEach es X.env := by rfl) (hpl : (backTo pos (starEach es X.env)).any (·.1) = false := by rfl) :
    PE X (.Call (.Name x p) (e :: es) [] pos) (tCall sp [] L2.E0 t) := by
  obtain ⟨f, fd, ps, F, hm, kp, b⟩ := c.ex
  exact pe_call F (hr.mono hk) hg hm kp b .nil L2.pass0 ha hdb he hpl
theorem pe_d0 (c : Cal X.prog X.w X.K X.mg X.base k x sp) (hr : Room j X.A) (hk : k ≤ j) (hg : Gl X x) (hdb : (x == ("__debug__" : Str)) = false := by decide) :
    PE X (.Call (.Name x p) [] [] pos) (tCall sp [] L2.E0 tNil) := by
  obtain ⟨f, fd, ps, F, hm, kp, b⟩ := c.ex
  exact pe_call0 F (hr.mono hk) hg hm kp b .nil L2.pass0 hdb
end
/-- a name of the module that is never stored to again -/
theorem gk {X : Cx} {x : Str} {v : V} {pos : Pos} (h : ∃ u, X.mg x = some u ∧ RelV v u) (hg : Gl X x := by rfl) (hd : (x == ("__debug__" : Str)) = false := by decide) : PE X (.Name x pos) (tC v) := by
  obtain ⟨u, hm, r⟩ := h
  exact pe_glob hg hm r hd
/-! rules within a block: the written part by its own name -/
section
variable {X : Cx} {K : PySem.W.Frag}
theorem ixT (h : X.K = K := by rfl) : IxR X (rIxT K) := h ▸ ix_tup
theorem ixL (h : X.K = K := by rfl) : IxR X (rIxL K) := h ▸ ix_list
theorem inSq (h : X.K = K := by rfl) : OpR X (compareOp .In) (rIn K false) := h ▸ op_in_seq
theorem ninSq (h : X.K = K := by rfl) : OpR X (compareOp .NotIn) (rIn K true) := h ▸ op_notIn_seq
theorem lenC (h : X.K = K := by rfl) : CallR X (.builtin "len") (fun xs H Q => ∃ x n, xs = [x] ∧ LenV K x H n ∧ Q (.int n) H) := h ▸ call_len
theorem isiC (h : X.K = K := by rfl) : CallR X (.builtin "isinstance") (rIsi K) := h ▸ call_isi
theorem allC (hc : X.calm = true) (h : X.K = K := by rfl) : CallR X (.builtin "all") (rAll K) := h ▸ cr_all hc
theorem tupC (h : X.K = K := by rfl) : CallR X (.type "tuple") (rTupOf K) := h ▸ call_tuple_of
theorem lstC (h : X.K = K := by rfl) : CallR X (.type "list") (rLstOf K) := h ▸ call_list_of
theorem eqDC (hu : X.A.units + 64 < cLine) (h : X.K = K := by rfl) : OpR X (compareOp .Eq) (rEqD K) := h ▸ op_eqD hu
theorem neDC (hu : X.A.units + 64 < cLine) (h : X.K = K := by rfl) : OpR X (compareOp .NotEq) (rNeD K) := h ▸ op_neD hu
theorem catC (h : X.K = K := by rfl) : OpR X (binaryOp .Add) (rCatA K) := h ▸ op_catA
theorem slT (h : X.K = K := by rfl) : SlR X (rSlA K) := h ▸ sl_tupA
theorem slL (h : X.K = K := by rfl) : SlR X (rSlL K) := h ▸ sl_list
end
/-- f(k = v, ..), no value by its place -/
theorem pe_callK0 {X : Cx} {CX : CXT} {k : Nat} {f : Addr} {fd : FuncData} {ps ks : List Str} {sp : Sp} {E : XK} {x : Str} {p pos : Pos} {kws : List Keyword} {tk : TA} {g : List Value → List Value → List Value} {gV : List V → List V → List V}
    (F : FnOk X.prog X.w X.K X.mg X.base CX k f fd ps sp) (hr : Room k X.A) (hg : Gl X x) (hm : X.mg x = some (.ref f)) (hk : PySem.W.keepIn X.K (.ref f) = true) (hb : KBinds X.K fd ps ks g gV) (hx : Passes CX X E) (hkw : PK X kws tk)
    (hall : (backToKw pos (keywordEach kws X.env)).all (·.1.isSome) = true := by rfl) (hks : (backToKw pos (keywordEach kws X.env)).filterMap (·.1) = ks := by rfl) (hdb : (x == ("__debug__" : Str)) = false := by decide)
    (hpl : ((backTo pos (starEach [] X.env)).any (·.1) || (backToKw pos (keywordEach kws X.env)).any (·.1.isNone)) = false := by rfl) : PE X (.Call (.Name x p) [] kws pos) (tCallK sp gV E tNil tk) := by
  refine ⟨fun pins s σ H Q I h => wpAny_Call_Name_kw (ld_glob I hg hm (PySem.W.callWith_KW0 (h₀ := X.base) I.ok.mod.kin hk hall (thn (hkw.run pos pins s σ H _ I h) fun ws s2 z => ?_) hpl) hdb)⟩
  obtain ⟨zs, H2, I2, rz, q2⟩ := z
  refine ⟨I2.kIn, ?_⟩
  rw [hks]
  exact run_fnk F hr hb hx I2 .nil rz q2
section
variable {K : PySem.W.Frag} {te ta tb : TE} {tt : TT} {tr : TA} {t u : TS} {env : Env} {d a b c : PyData} {as : List PyData} {P : Post} {i : Nat}
theorem run_ifP {p : Bool} (h : EvPT K tt env p) (h1 : p = true → Run K t env P) (h2 : p = false → Run K u env P) : Run K (tIfS tt t u) env P := run_if (h.imp fun q e z => by
  obtain ⟨rfl, rfl⟩ := z
  cases q with
  | true => exact h1 rfl
  | false => exact h2 rfl)
theorem run_retP (h : EvP K te env d) (hp : P.rt d env) : Run K (tRet te) env P := run_ret (h.imp fun _ _ z => by
  obtain ⟨rfl, rfl⟩ := z
  exact hp)
theorem run_setP (h : EvP K te env d) (hp : P.nx (env.set i (some (.dat d)))) : Run K (tAsg te (gName i)) env P := run_set (h.imp fun _ _ z => by
  obtain ⟨rfl, rfl⟩ := z
  exact hp)
theorem ept_or1 {tu : TT} (ha : EvPT K tt env true) : EvPT K (tOr tt tu) env true := et_is (ept_or (q := false) ha fun h => by cases h) rfl
theorem ept_and0 {tu : TT} (ha : EvPT K tt env false) : EvPT K (tAnd tt tu) env false := et_is (ept_and (q := false) ha fun h => by cases h) rfl
theorem ep_or1 (ha : EvP K ta env (.bool true)) : EvP K (tOrV ta tb) env (.bool true) := ep_is (ep_orV (q := false) ha fun h => by cases h) rfl
theorem ep_and0 (ha : EvP K ta env (.bool false)) : EvP K (tAndV ta tb) env (.bool false) := ep_is (ep_andV (q := false) ha fun h => by cases h) rfl
theorem ep_callD {Pre : List PyData → Prop} {Ps : List PyData → PyData → Prop} {E0 : XK} (h : EvPA K tr env as) (hp : Pre as) (hk : ∀ d, Ps as d → d = c) : EvP K (tCall (spD K Pre Ps) [] E0 tr) env c :=
  ev_call (h.imp fun ds e z => by
    obtain ⟨rfl, rfl⟩ := z
    exact ⟨hp, fun d hd => ⟨hk d hd, rfl⟩⟩)
theorem ept_yes : EvPT K tYes env true := fun F I0 I σ H E Q q => q I H true env E (Ex.refl I) ⟨rfl, rfl⟩
/-- a comprehension whose parts change nothing -/
theorem ep_lc {wi : TI} {g : TG} {vs : List Nat} {ds : List PyData} (hw : EvW K wi env ds) (hv : wipeE env vs = env) (hn : ds.length ≤ 50000) (hg : OwnG g vs) (f : PyData → Bool) (v : PyData → PyData)
    (hs : ∀ d, d ∈ ds → Tgt K g d env fun e' => wipeE e' vs = env ∧ EvPT K tt e' (f d) ∧ (f d = true → EvP K te e' (v d))) : EvP K (tLc wi g tt te vs) env (.list ((ds.filter f).map v)) := by
  refine ev_lc hw hv hn (fun j as e => e = env ∧ as = ((ds.take j).filter f).map v) ⟨rfl, by simp⟩ (fun j d as e hd ⟨he, ha⟩ => ?_) hg (fun as e ⟨he, ha⟩ _ => ⟨by rw [ha, List.take_length], he⟩)
  subst he ha
  have hm : d ∈ ds := List.mem_of_getElem? hd
  intro F I0 I σ H x E hx Q q
  refine hs d hm F I0 I σ H x E hx Q fun σ' e' E' ⟨h1, h2, h3⟩ hl => q σ' e' E' ?_ hl
  refine h2.imp fun p e2 z => ?_
  obtain ⟨rfl, rfl⟩ := z
  have ht : ds.take (j + 1) = ds.take j ++ [d] := by rw [List.take_add_one, hd]; rfl
  cases hf : f d with
  | true =>
    rw [if_pos rfl]
    refine (h3 hf).imp fun c e3 z => ?_
    obtain ⟨rfl, rfl⟩ := z
    refine ⟨h1, ?_⟩
    rw [ht, List.filter_append, List.map_append, List.filter_cons, if_pos hf]
    rfl
  | false =>
    rw [if_neg Bool.false_ne_true]
    refine ⟨h1, ?_⟩
    rw [ht, List.filter_append, List.map_append, List.filter_cons, if_neg (by rw [hf]; decide)]
    simp
theorem ep_lcA {wi : TI} {g : TG} {vs : List Nat} {ds : List PyData} (hw : EvW K wi env ds) (hv : wipeE env vs = env) (hn : ds.length ≤ 50000) (hg : OwnG g vs) (v : PyData → PyData)
    (hs : ∀ d, d ∈ ds → Tgt K g d env fun e' => wipeE e' vs = env ∧ EvP K te e' (v d)) : EvP K (tLc wi g tYes te vs) env (.list (ds.map v)) := by
  have h := ep_lc (tt := tYes) hw hv hn hg (fun _ => true) v (te := te) fun d hd => fun F I0 I σ H x E hx Q q => hs d hd F I0 I σ H x E hx Q fun σ' e' E' ⟨h1, h2⟩ hl => q σ' e' E' ⟨h1, ept_yes, fun _ => h2⟩ hl
  rw [List.filter_eq_self.mpr fun _ _ => rfl] at h
  exact h
theorem dq_strs {I : Hp} : ∀ zs : List Str, DqAll K I (zs.map V.str) (zs.map PyData.str)
  | [] => .nil
  | z :: zs => .cons (.str z) (dq_strs zs)
theorem run_setIP {ti : TE} {p : Addr} {ds : List PyData} {j : Nat} (h : EvP K te env d) (h0 : env[i]? = some (some (.lst p ds))) (hi : EvP K ti env (.int (j : Int))) (hj : j < ds.length) (k : P.nx (env.set i (some (.lst p (ds.set j d))))) : Run K (tAsg te (gSub (tVar i) ti rSetL)) env P := run_setI (h.imp fun x e z => by
  obtain ⟨rfl, rfl⟩ := z
  exact ⟨p, ds, h0, hi.imp fun y e z => by
    obtain ⟨rfl, rfl⟩ := z
    exact ⟨j, rfl, hj, h0, k⟩⟩)
theorem run_appP {p : Addr} {ds : List PyData} (h : EvP K te env d) (h0 : env[i]? = some (some (.lst p ds))) (hl : ds.length < 100000) (k : P.nx (env.set i (some (.lst p (ds ++ [d]))))) : Run K (tDrop (tBM K "list" rAppend (tVar i) (tCons te tNil))) env P := run_app (h.imp fun x e z => by
  obtain ⟨rfl, rfl⟩ := z
  exact ⟨p, ds, h0, hl, k⟩) ⟨p, ds, h0⟩
theorem run_seqI {M : Env → Prop} (h : Run K t env { P with nx := M }) (k : ∀ e, M e → Run K u e P) : Run K (tSeq t u) env P := run_seq (h.imp k (fun _ _ z => z) (fun _ z => z) fun _ z => z)
end
end Lw

set_option Elab.async false
set_option linter.all false
set_option autoImplicit false
set_option maxRecDepth 100000
set_option maxHeartbeats 4000000
namespace Lw
open PySem PySem.Spec PyProof.Rows L2
section
variable {K : PySem.W.Frag} {te ta tb : TE} {tt : TT} {tr : TA} {t u : TS} {env : Env} {d a b c : PyData} {as : List PyData} {P : Post} {i : Nat}
/-- the dict that the items make, key by key -/
def dictOfD (key : PyData → Key) (val : PyData → V) (ds : List PyData) : List (Key × V) := ds.foldl (fun acc d => putK acc (key d) (val d)) []
theorem dictOfD_snoc (key : PyData → Key) (val : PyData → V) (ds : List PyData) (d : PyData) : dictOfD key val (ds ++ [d]) = putK (dictOfD key val ds) (key d) (val d) := by
  unfold dictOfD
  rw [List.foldl_append]
  rfl
theorem dictOfD_len (key : PyData → Key) (val : PyData → V) : ∀ (ds : List PyData), (dictOfD key val ds).length ≤ ds.length := by
  intro ds
  have h : ∀ (ds : List PyData) (acc : List (Key × V)), (ds.foldl (fun acc d => putK acc (key d) (val d)) acc).length ≤ acc.length + ds.length := by
    intro ds
    induction ds with
    | nil => intro acc; simp
    | cons d ds ih =>
      intro acc
      have h1 := ih (putK acc (key d) (val d))
      have h2 := length_putK acc (key d) (val d)
      rw [List.foldl_cons, List.length_cons]
      omega
  have := h ds []
  simpa [dictOfD] using this
/-- a dict comprehension whose parts change nothing -/
theorem ev_dc {wi : TI} {g : TG} {tk tv : TE} {vs : List Nat} {ds : List PyData} (hw : EvW K wi env ds) (hv : wipeE env vs = env) (hn : ds.length ≤ 50000) (hg : OwnG g vs) (key : PyData → Key) (kd vd : PyData → PyData)
    (hs : ∀ d, d ∈ ds → Tgt K g d env fun e' => wipeE e' vs = env ∧ EvP K tk e' (kd d) ∧ EvP K tv e' (vd d) ∧ toV (kd d) = kV (key d) ∧ flatD (kd d) = true ∧ flatD (vd d) = true) :
    ∀ (F I0 I : Hp) (σ : L2.St) (H : Hp), EnvI K F I0 I σ H env → ∀ Q : VK, (∀ (D : Addr) (I' H' : Hp), F D = none → I' D = none → EnvI K (upd F D (.dK (dictOfD key (fun d => toV (vd d)) ds))) I0 I' σ H' env → Ex I I' → Q (.ref D) H') → tDc wi g tYes tk tv vs σ H Q := fun F I0 I σ H E Q q =>
  hw F I0 I σ H E _ fun J I1 H1 G Y E1 x1 W hG hY => fun D hD => by
    have hF : F D = none := E1.fh.back hD
    have h0D : I0 D = none := (E1.oi.trans E1.ih).back hD
    let dk : Nat → List (Key × V) := fun j => dictOfD key (fun d => toV (vd d)) (ds.take j)
    have dk_succ : ∀ j d, ds[j]? = some d → dk (j + 1) = putK (dk j) (key d) (toV (vd d)) := fun j d h => by
      show dictOfD _ _ (ds.take (j + 1)) = _
      rw [List.take_add_one, h]
      exact dictOfD_snoc _ _ _ _
    have start_ : EnvI K (upd F D (.dK [])) I0 I1 (wipe σ vs) (upd H1 D (.dK [])) env := by
      have z := (E1.guard (o := .dK []) hD).wiped vs
      rw [hv] at z
      exact z
    let Pv : Nat → Hp → Prop := fun j H' => ∃ I', EnvI K (upd F D (.dK (dk j))) I0 I' (wipe σ vs) H' env ∧ Ex I1 I'
    refine ⟨fun j m H' => m = ds.length - j ∧ j ≤ ds.length ∧ Pv j H', ⟨ds.length, by simp, Nat.zero_le _, I1, start_, Ex.refl _⟩, ?_⟩
    rintro j m H' ⟨rfl, hj, I', E', x'⟩
    have hGH := hG H' (x'.trans E'.ih)
    by_cases hlt : j < ds.length
    · refine .inr ⟨W.goes j H' hlt hGH, Pv (j + 1), fun H2 p => ⟨ds.length - (j + 1), by omega, rfl, hlt, p⟩, fun x H3 hy => ?_⟩
      obtain ⟨d, hdj, hx⟩ := hY j H' x H3 I' hlt x' E'.ih (W.yields j H' x H3 hlt hGH hy)
      have go : ∀ I3, Ex I' I3 → EnvI K (upd F D (.dK (dk j))) I0 I3 (wipe σ vs) H3 env → Dq K I3 x d → g x (wipe σ vs) H3 fun σ2 H2 => wipe σ2 vs = wipe σ vs ∧ tYes σ2 H2 fun b H3 =>
          if b = true then tk σ2 H3 fun y H4 => tv σ2 H4 fun z H5 => ∃ kvs k, y = kV k ∧ H5 D = some (.dK kvs) ∧ kvs.length < sizeLine ∧ Pv (j + 1) (upd H5 D (.dK (putK kvs k z))) else Pv (j + 1) H3 := fun I3 x3 E3 hxd => by
        refine hg (wipe σ vs) x (wipe σ vs) H3 _ (wipe_idem σ vs) (hs d (List.mem_of_getElem? hdj) _ I0 I3 (wipe σ vs) H3 x E3 hxd _ fun σ2 e2 E2 r _ hw2 => ?_)
        obtain ⟨r1, r2, r3, r4, r5, r6⟩ := r
        dsimp only [tYes]
        rw [if_pos rfl]
        refine r2 _ I0 I3 σ2 H3 E2 _ fun y I4 H4 c e4 E4 x4 hy4 ⟨z1, z2⟩ => ?_
        subst z1 z2
        refine r3 _ I0 I4 σ2 H4 E4 _ fun z I5 H5 c e5 E5 x5 hz5 ⟨z3, z4⟩ => ?_
        subst z3 z4
        have ey : y = kV (key d) := ((dp_flat (dp_mono x5 hy4) r5).1).trans r4
        have ez : z = toV (vd d) := (dp_flat hz5 r6).1
        subst ey ez
        have hl : (dk j).length ≤ j := by
          have := dictOfD_len key (fun d => toV (vd d)) (ds.take j)
          rw [List.length_take] at this
          show (dictOfD _ _ (ds.take j)).length ≤ j
          omega
        refine ⟨dk j, key d, rfl, E5.fh D _ upd_same, Nat.lt_of_le_of_lt hl (Nat.lt_of_lt_of_le hlt (Nat.le_trans hn (by decide))), I5, ?_, x'.trans ((x3.trans x4).trans x5)⟩
        have z := (E5.guardPut (o' := .dK (dk (j + 1))) h0D).wiped vs
        rw [hw2, r1] at z
        rw [dk_succ j d hdj] at z ⊢
        exact z
      rcases hx with ⟨eH, hxd⟩ | ⟨T, o, hT, eH, hxd⟩
      · subst eH
        exact go I' (Ex.refl _) E' hxd
      · subst eH
        exact go _ (Ex.new (E'.ih.back hT)) (E'.newD hT) hxd
    · have e : j = ds.length := by omega
      subst e
      refine .inl ⟨W.stops H' hGH, ?_⟩
      have ed : dk ds.length = dictOfD key (fun d => toV (vd d)) ds := by
        show dictOfD _ _ (ds.take ds.length) = _
        rw [List.take_length]
      rw [ed] at E'
      exact q D I' H' hF (E'.fr D (by rw [upd_same]; exact fun z => nomatch z) h0D) E'.unwiped (x1.trans x')
/-- a def whose first argument is a dict that it leaves -/
def spK (K : PySem.W.Frag) (Pre : List (Key × V) → List PyData → Prop) (Ps : List (Key × V) → List PyData → PyData → Prop) : Sp := fun vs H Q _ => ∃ (p : Addr) (kvs : List (Key × V)) (xs : List V) (I : Hp) (ds : List PyData), vs = .ref p :: xs ∧ H p = some (.dK kvs) ∧ I p = none ∧ Ex I H ∧ DqAll K I xs ds ∧ Pre kvs ds ∧
  ∀ (v : V) (I' H' : Hp) (d : PyData), Ex I I' → Ex I' H' → Ex H H' → (∀ a, H a ≠ none → I a = none → I' a = none) → Dq K I' v d → Ps kvs ds d → Q v H'
theorem ep_callK {p : Addr} {kvs : List (Key × V)} {Pre : List (Key × V) → List PyData → Prop} {Ps : List (Key × V) → List PyData → PyData → Prop} {E0 : XK} (h0 : env[i]? = some (some (.dic p kvs))) (h : EvPA K tr env as) (hp : Pre kvs as) (hk : ∀ d, Ps kvs as d → d = c) : EvP K (tCall (spK K Pre Ps) [] E0 (tCons (tVar i) tr)) env c := fun F I0 I σ H E Q q => by
  obtain ⟨v, h1, rfl, hf, hi, hh⟩ := E.at_ i _ h0
  refine ⟨.ref p, h1, h F I0 I σ H E _ fun vs I1 H1 ds e E1 x1 hvs ⟨z1, z2⟩ => ?_⟩
  subst z1 z2
  obtain ⟨v', h1', ev, hf', hi', hh'⟩ := E1.at_ i _ h0
  rw [List.append_nil]
  exact ⟨p, kvs, vs, I1, _, rfl, hh', hi', E1.ih, hvs, hp, fun v I2 H2 d a1 a2 a3 a4 hd hps => q v I2 H2 d _ (E1.called a1 a2 a3 a4) (x1.trans a1) hd ⟨hk d hps, rfl⟩⟩
/-- the body of such a def -/
theorem body_K {Pre : List (Key × V) → List PyData → Prop} {Ps : List (Key × V) → List PyData → PyData → Prop} {N : List Str} {vs : List V} {H : Hp} {Q : VK} {E : XK} (h : spK K Pre Ps vs H Q E)
    (hb : ∀ p kvs ds, Pre kvs ds → vs.length = ds.length + 1 → Run K t (some (.dic p kvs) :: (ds.map (fun d => some (.dat d)) ++ List.replicate (N.length - (ds.length + 1)) none)) ⟨fun e => e[0]? = some (some (.dic p kvs)) ∧ Ps kvs ds .none, fun d e => e[0]? = some (some (.dic p kvs)) ∧ Ps kvs ds d, fun _ => False, fun _ => False⟩) :
    t { nx := fun _ H' => Q .non H', rt := Q } (start N vs) H := by
  obtain ⟨p, kvs, xs, I, ds, rfl, hpp, hIp, hI, hvs, hp, k⟩ := h
  have hl := dpA_len hvs
  have hst : start N (.ref p :: xs) = some (.ref p) :: (xs.map some ++ List.replicate (N.length - (xs.length + 1)) none) := rfl
  have tail : ∀ {m u}, (some (Val.dic p kvs) :: (ds.map (fun d => some (Val.dat d)) ++ List.replicate (N.length - (ds.length + 1)) none))[m + 1]? = some (some u) → ∃ d v, u = .dat d ∧ (start N (.ref p :: xs))[m + 1]? = some (some v) ∧ Dq K I v d := fun {m u} e => by
    have e : (ds.map (fun d => some (Val.dat d)) ++ List.replicate (N.length - (ds.length + 1)) none)[m]? = some (some u) := by simpa using e
    by_cases z : m < ds.length
    · rw [List.getElem?_append_left (by simpa using z), List.getElem?_map, List.getElem?_eq_getElem z] at e
      have e' : u = .dat ds[m] := by simpa using e.symm
      subst e'
      obtain ⟨v, hv, hd⟩ := dpA_get hvs (List.getElem?_eq_getElem z)
      refine ⟨_, v, rfl, ?_, hd⟩
      rw [hst, List.getElem?_cons_succ, List.getElem?_append_left (by simpa [hl] using z), List.getElem?_map, hv]
      rfl
    · rw [List.getElem?_append_right (by simpa using z), List.getElem?_replicate] at e
      split at e <;> cases e
  have E1 : EnvI K (lessH H p) I I (start N (.ref p :: xs)) H (some (.dic p kvs) :: (ds.map (fun d => some (.dat d)) ++ List.replicate (N.length - (ds.length + 1)) none)) := by
    refine ⟨fun a o h => (lessH_some h).2, Ex.refl I, hI, fun _ _ h => h, by rw [hst]; simp [hl], fun i x e => ?_, fun i j x y hij hi hj cx cy => ?_⟩
    · cases i with
      | zero =>
        have e' : x = .dic p kvs := by simpa using e.symm
        subst e'
        exact ⟨.ref p, rfl, rfl, lessH_same, hIp, hpp⟩
      | succ i =>
        obtain ⟨d, v, rfl, h1, h2⟩ := tail e
        exact ⟨v, h1, h2⟩
    · exfalso
      cases i with
      | succ i =>
        obtain ⟨d, v, rfl, _, _⟩ := tail hi
        cases cx
      | zero =>
        cases j with
        | zero => exact hij rfl
        | succ j =>
          obtain ⟨d, v, rfl, _, _⟩ := tail hj
          cases cy
  have out : ∀ {v : V} {I' : Hp} {σ' : L2.St} {H' : Hp} {d : PyData} {e : Env}, EnvI K (lessH H p) I I' σ' H' e → e[0]? = some (some (.dic p kvs)) → Dq K I' v d → Ps kvs ds d → Q v H' := fun {v I' σ' H' d e} E' h0 hd hps => by
    obtain ⟨w, hw, ew, hF, hI', hH'⟩ := E'.at_ 0 _ h0
    refine k v I' H' d E'.oi E'.ih (fun a o ha => ?_) (fun a h1 h2 => ?_) hd hps
    · by_cases z : a = p
      · subst z
        rw [hpp] at ha
        cases ha
        exact hH'
      · exact E'.fh a o (by rw [lessH_ne z]; exact ha)
    · by_cases z : a = p
      · subst z
        exact hI'
      · exact E'.fr a (by rw [lessH_ne z]; exact h1) h2
  exact hb p kvs ds hp (by rw [List.length_cons, hl]) _ I I _ H _ E1 ⟨fun I' σ' H' e E' ⟨q1, q2⟩ => out E' q1 .non q2, fun v I' σ' H' d e E' hd ⟨q1, q2⟩ => out E' q1 hd q2, fun _ _ _ _ _ p => p.elim, fun _ _ _ _ _ p => p.elim⟩
/-- a def that makes a dict of data -/
def spM (K : PySem.W.Frag) (Pre : List PyData → Prop) (Ps : List PyData → List (Key × V) → Prop) : Sp := fun vs H Q _ => ∃ (I : Hp) (ds : List PyData), Ex I H ∧ DqAll K I vs ds ∧ Pre ds ∧
  ∀ (D : Addr) (H' I' : Hp) (kvs : List (Key × V)), H D = none → I' D = none → Ex I I' → Ex I' H' → Ex H H' → (∀ a, H a ≠ none → I a = none → I' a = none) → H' D = some (.dK kvs) → Ps ds kvs → Q (.ref D) H'
/-- x = f(..), a new dict of one's own -/
theorem run_setM {Pre : List PyData → Prop} {Ps : List PyData → List (Key × V) → Prop} {E0 : XK} (h : EvPA K tr env as) (hp : Pre as) (k : ∀ p kvs, Ps as kvs → P.nx (env.set i (some (.dic p kvs)))) : Run K (tAsg (tCall (spM K Pre Ps) [] E0 tr) (gName i)) env P := fun F I0 I σ H D E A =>
  h F I0 I σ H E _ fun vs I1 H1 ds e E1 x1 hvs ⟨z1, z2⟩ => by
    subst z1
    obtain rfl : env = e := z2.symm
    rw [List.append_nil]
    refine ⟨I1, _, E1.ih, hvs, hp, fun D H2 I2 kvs hD hI2 a1 a2 a3 a4 hH2 hps => ?_⟩
    have E2 := E1.called a1 a2 a3 a4
    have hF : F D = none := E1.fh.back hD
    exact A.nx I2 _ H2 _ (E1.setNew (x := .dic D kvs) E2 i hD ⟨rfl, hF, hI2, hH2⟩) (k D kvs hps)
/-- a def that makes a list of data -/
def spF (K : PySem.W.Frag) (Pre : List PyData → Prop) (Ps : List PyData → List PyData → Prop) : Sp := fun vs H Q _ => ∃ (I : Hp) (ds : List PyData), Ex I H ∧ DqAll K I vs ds ∧ Pre ds ∧
  ∀ (D : Addr) (H' I' : Hp) (xs : List V) (es : List PyData), H D = none → I' D = none → Ex I I' → Ex I' H' → Ex H H' → (∀ a, H a ≠ none → I a = none → I' a = none) → H' D = some (.lst xs) → DqAll K I' xs es → Ps ds es → Q (.ref D) H'
theorem run_setF {Pre : List PyData → Prop} {Ps : List PyData → List PyData → Prop} {E0 : XK} (h : EvPA K tr env as) (hp : Pre as) (k : ∀ p es, Ps as es → P.nx (env.set i (some (.lst p es)))) : Run K (tAsg (tCall (spF K Pre Ps) [] E0 tr) (gName i)) env P := fun F I0 I σ H D E A =>
  h F I0 I σ H E _ fun vs I1 H1 ds e E1 x1 hvs ⟨z1, z2⟩ => by
    subst z1
    obtain rfl : env = e := z2.symm
    rw [List.append_nil]
    refine ⟨I1, _, E1.ih, hvs, hp, fun D H2 I2 xs es hD hI2 a1 a2 a3 a4 hH2 hds hps => ?_⟩
    exact A.nx I2 _ H2 _ (E1.setNew (x := .lst D es) (E1.called a1 a2 a3 a4) i hD ⟨rfl, E1.fh.back hD, hI2, xs, hH2, hds⟩) (k D es hps)
/-- a def that makes a purse -/
def spPu (K : PySem.W.Frag) (n : Nat) (Pre : List PyData → Prop) : Sp := fun vs H Q _ => ∃ (I : Hp) (ds : List PyData), Ex I H ∧ DqAll K I vs ds ∧ Pre ds ∧
  ∀ (D : Addr) (H' I' : Hp) (xs : List V), H D = none → I' D = none → Ex I I' → Ex I' H' → Ex H H' → (∀ a, H a ≠ none → I a = none → I' a = none) → H' D = some (.lst xs) → PurseOk xs n → Q (.ref D) H'
theorem run_setPu {n : Nat} {Pre : List PyData → Prop} {E0 : XK} (h : EvA K tr env fun as e => e = env ∧ Pre as) (k : ∀ p, P.nx (env.set i (some (.prs p n)))) : Run K (tAsg (tCall (spPu K n Pre) [] E0 tr) (gName i)) env P := fun F I0 I σ H D E A =>
  h F I0 I σ H E _ fun vs I1 H1 ds e E1 x1 hvs ⟨z2, hp⟩ => by
    obtain rfl : env = e := z2.symm
    rw [List.append_nil]
    refine ⟨I1, _, E1.ih, hvs, hp, fun D H2 I2 xs hD hI2 a1 a2 a3 a4 hH2 hpu => ?_⟩
    exact A.nx I2 _ H2 _ (E1.setNew (x := .prs D n) (E1.called a1 a2 a3 a4) i hD ⟨rfl, E1.fh.back hD, hI2, xs, hH2, hpu⟩) (k D)
/-- xs.pop(e), xs one's own -/
theorem ev_popAt {p : Addr} {ds : List PyData} {R : PyData → Env → Prop} (h0 : env[i]? = some (some (.lst p ds))) (h : EvE K te env fun d e => ∃ (j : Nat) (c : PyData), d = .int (j : Int) ∧ j < 100000 ∧ ds[j]? = some c ∧ e[i]? = some (some (.lst p ds)) ∧ R c (e.set i (some (.lst p (ds.eraseIdx j))))) :
    EvE K (tBM K "list" rPopAt (tVar i) (tCons te tNil)) env R := fun F I0 I σ H E Q q => by
  obtain ⟨v, h1, rfl, hf, hi, xs, hh, hd⟩ := E.at_ i _ h0
  refine ⟨.ref p, h1, .inl ⟨rfl, xs, .inl (.inl hh)⟩, h F I0 I σ H E _ fun y I1 H1 d e E1 x1 hy ⟨j, c, ed, hj, hc, he, hr⟩ => ?_⟩
  subst ed
  cases dp_int hy
  obtain ⟨v', h1', ev, hf', hi', xs', hh', hd'⟩ := E1.at_ i _ he
  obtain ⟨w, hw, hwd⟩ := dpA_get hd' hc
  have hl := dpA_len hd'
  have hjl : j < xs'.length := (List.getElem?_eq_some_iff.mp hw).1
  refine ⟨p, xs', (j : Int), j, w, rfl, rfl, hh', by omega, by omega, ?_, hw, ?_⟩
  · exact (ixN_seq (show ixN xs'.length (j : Int) = some j by
      unfold ixN
      rw [if_pos (by omega), if_pos (by omega)]
      simp)).1
  · exact q w I1 _ c _ (E1.putC (y := .lst p (ds.eraseIdx j)) he rfl h1 hi' hf' ⟨rfl, hf', hi', _, upd_same, dpA_erase j hd'⟩) x1 hwd hr
theorem ep_lenSeq {ns : List Int} (h : env[i]? = some (some (.seq ns))) : EvP K (tCB (fun xs H Q => ∃ x n, xs = [x] ∧ LenV K x H n ∧ Q (.int n) H) (tCons (tVar i) tNil)) env (.int ns.length) := fun F I0 I σ H E Q q => by
  obtain ⟨v, h1, a, rfl, hs⟩ := E.at_ i _ h
  refine ⟨.ref a, h1, .ref a, (ns.map V.int).length, rfl, .inl ⟨_, E.ih.l hs, rfl⟩, ?_⟩
  rw [List.length_map]
  exact q _ I H _ env E (Ex.refl I) (.int _) ⟨rfl, rfl⟩
end
section
variable {P : Program} {w : World} {K : PySem.W.Frag} {mg : Str → Option Value} {base : Heap}
theorem DefAt.calK {x : Str} {st : Stmt} {N ps : List Str} {k : Nat} {Pre : List (Key × V) → List PyData → Prop} {Ps : List (Key × V) → List PyData → PyData → Prop} (D : DefAt K mg x st ps) (S : FnScope N ps (defScope st)) (len : ∀ kvs ds, Pre kvs ds → ds.length + 1 = ps.length)
    (hbody : ∀ (f : Addr) (cdv : Value) (A : Around) (outer : List PySem.Env) (s : Shared) (H : Hp) (E : XK), Room k (A.deeper (envOfC x (defScope st) s.heap.objs.size f cdv)) →
      ∃ t, PSs (cxOf L2.CX0 P w K mg base N x (defScope st) f cdv A outer s H E).nox (defBody st) t ∧
        ∀ p kvs ds, Pre kvs ds → Run K t (some (.dic p kvs) :: (ds.map (fun d => some (.dat d)) ++ List.replicate (N.length - (ds.length + 1)) none)) ⟨fun e => e[0]? = some (some (.dic p kvs)) ∧ Ps kvs ds .none, fun d e => e[0]? = some (some (.dic p kvs)) ∧ Ps kvs ds d, fun _ => False, fun _ => False⟩) : Cal P w K mg base (k + 1) x (spK K Pre Ps) :=
  D.cal S (fun vs H Q E h => by
    obtain ⟨p, kvs, xs, I, ds, rfl, _, _, _, hv, hp, _⟩ := h
    rw [List.length_cons, dpA_len hv]
    exact len kvs ds hp) fun f cdv A outer s H vs Q E hr h => by
    obtain ⟨t, h1, h2⟩ := hbody f cdv A outer s H E hr
    exact ⟨t, h1, body_K h fun p kvs ds hp _ => h2 p kvs ds hp⟩
/-- a def's promise, with the def itself -/
structure CalF (P : Program) (w : World) (K : PySem.W.Frag) (mg : Str → Option Value) (base : Heap) (k : Nat) (x : Str) (st : Stmt) (ps : List Str) (sp : Sp) : Prop where
  ex : ∃ (f : Addr) (fd : FuncData), L2.Fun K x x st f fd ∧ FnOk P w K mg base L2.CX0 k f fd ps sp ∧ mg x = some (.ref f) ∧ Binds K fd ps []
theorem CalF.cal {x : Str} {st : Stmt} {ps : List Str} {k : Nat} {sp : Sp} (c : CalF P w K mg base k x st ps sp) : Cal P w K mg base k x sp := by
  obtain ⟨f, fd, F, ok, hm, hb⟩ := c.ex
  exact ⟨f, fd, ps, ok, hm, F.kp, hb⟩
theorem DefAt.calDF {x : Str} {st : Stmt} {N ps : List Str} {k : Nat} {Pre : List PyData → Prop} {Ps : List PyData → PyData → Prop} (D : DefAt K mg x st ps) (S : FnScope N ps (defScope st)) (len : ∀ ds, Pre ds → ds.length = ps.length)
    (hbody : ∀ (f : Addr) (cdv : Value) (A : Around) (outer : List PySem.Env) (s : Shared) (H : Hp) (E : XK), Room k (A.deeper (envOfC x (defScope st) s.heap.objs.size f cdv)) →
      ∃ t, PSs (cxOf L2.CX0 P w K mg base N x (defScope st) f cdv A outer s H E).nox (defBody st) t ∧
        ∀ ds, Pre ds → Run K t (ds.map (fun d => some (.dat d)) ++ List.replicate (N.length - ds.length) none) ⟨fun _ => Ps ds .none, fun d _ => Ps ds d, fun _ => False, fun _ => False⟩) : CalF P w K mg base (k + 1) x st ps (spD K Pre Ps) := by
  obtain ⟨f, fd, F, hm, hb⟩ := D.ex
  exact ⟨f, fd, F, F.ok S (fun vs H Q E h => by
    obtain ⟨I, ds, _, hv, hp, _⟩ := h
    rw [dpA_len hv]
    exact len ds hp) (fun cdv A outer s H vs Q E hr h => by
    obtain ⟨t, h1, h2⟩ := hbody f cdv A outer s H E hr
    exact ⟨t, h1, body_D h fun ds hp _ => h2 ds hp⟩), hm, hb⟩
end
end Lw

set_option Elab.async false
set_option linter.all false
set_option autoImplicit false
set_option maxRecDepth 100000
set_option maxHeartbeats 4000000
/-! Draws within arguments, and within what is walked. -/
namespace Lw
open PySem PySem.Spec PyProof.Rows L2
section
variable {K : PySem.W.Frag} {te ta tb : TE} {tt : TT} {tr : TA} {t u : TS} {env : Env} {d a b c : PyData} {as : List PyData} {P : Post} {i : Nat}
/-- a draw whose arguments may draw themselves -/
theorem ev_callU2 {cost : Nat} {Pre : List PyData → Prop} {Ps : List PyData → PyData → Prop} {E0 : XK} {R : PyData → Env → Prop} {p : Addr} {n0 : Nat} (h0 : env[i]? = some (some (.prs p n0)))
    (h : EvA K tr env fun ds e => Pre ds ∧ ∃ n, e[i]? = some (some (.prs p (n + cost))) ∧ ∀ d, Ps ds d → R d (e.set i (some (.prs p n)))) : EvE K (tCall (spU K cost Pre Ps) [] E0 (tCons (tVar i) tr)) env R := fun F I0 I σ H E Q q => by
  obtain ⟨v, h1, rfl, hf, hi, ws, hh, hpu⟩ := E.at_ i _ h0
  refine ⟨.ref p, h1, h F I0 I σ H E _ fun vs I1 H1 ds e E1 x1 hvs ⟨hp, n, he, hk⟩ => ?_⟩
  obtain ⟨v', h1', ev, hf', hi', ws', hh', hpu'⟩ := E1.at_ i _ he
  subst ev
  rw [List.append_nil]
  exact ⟨p, n, vs, I1, ds, rfl, ⟨ws', hh', hpu'⟩, hi', E1.ih, hvs, hp, fun v I2 H2 d a1 a2 a3 a4 ⟨us, a5, a6⟩ hd hps =>
    q v I2 H2 d _ (E1.calledC (y := .prs p n) he rfl h1' hf' a1 a2 a3 a4 ⟨rfl, hf', a4 p (by rw [hh']; exact fun z => nomatch z) hi', us, a5, a6⟩) (x1.trans a1) hd (hk d hps)⟩
/-- the same, the arguments' readings given one by one -/
theorem ev_callP {cost n : Nat} {Pre : List PyData → Prop} {Ps : List PyData → PyData → Prop} {E0 : XK} {R : PyData → Env → Prop} {p : Addr} (h0 : env[i]? = some (some (.prs p (n + cost))))
    (h : EvPA K tr env as) (hp : Pre as) (hk : ∀ d, Ps as d → R d (env.set i (some (.prs p n)))) : EvE K (tCall (spU K cost Pre Ps) [] E0 (tCons (tVar i) tr)) env R :=
  ev_callU2 h0 (h.imp fun ds e z => by
    obtain ⟨rfl, rfl⟩ := z
    exact ⟨hp, n, h0, hk⟩)
/-- what is walked, by what the looking does -/
def EvWE (K : PySem.W.Frag) (wi : TI) (env : Env) (P : List PyData → Env → Prop) : Prop :=
  ∀ (F I0 I : Hp) (σ : L2.St) (H : Hp), EnvI K F I0 I σ H env → ∀ R : It → Hp → Prop,
    (∀ (J : It) (I' H' : Hp) (G : Hp → Prop) (Y : Nat → Hp → V → Hp → Prop) (ds : List PyData) (env' : Env), P ds env' → EnvI K F I0 I' σ H' env' → Ex I I' → Walk J ds.length G Y → (∀ H2, Ex I' H2 → G H2) →
      (∀ (j : Nat) (H2 : Hp) (x : V) (H3 I2 : Hp), j < ds.length → Ex I' I2 → Ex I2 H2 → Y j H2 x H3 → ∃ d, ds[j]? = some d ∧ ((H3 = H2 ∧ Dq K I2 x d) ∨ ∃ T o, H2 T = none ∧ H3 = upd H2 T o ∧ Dq K (upd I2 T o) x d)) → R J H') → wi σ H R
theorem EvWE.imp {wi : TI} {P P' : List PyData → Env → Prop} (h : EvWE K wi env P) (k : ∀ d e, P d e → P' d e) : EvWE K wi env P' :=
  fun F I0 I σ H E R q => h F I0 I σ H E R fun J I' H' G Y ds e p => q J I' H' G Y ds e (k ds e p)
theorem ewe_list {P : List PyData → Env → Prop} (h : EvE K te env fun d e => ∃ ds, d = .list ds ∧ P ds e) : EvWE K (iList K te) env P := fun F I0 I σ H E R q =>
  h F I0 I σ H E _ fun v I1 H1 d e E1 x1 hd ⟨ds, ed, hp⟩ => by
    subst ed
    obtain ⟨a, xs, rfl, hs, hds⟩ := dp_lst hd
    have hl := dpA_len hds
    refine ⟨a, rfl, ⟨xs, E1.ih.l (.inl (.inl hs))⟩, q _ I1 H1 _ _ ds e hp E1 x1 (hl ▸ walk_list (K := K) (a := a) (xs := xs)) (fun H2 x => x.l (.inl (.inl hs))) fun j H2 x H3 I2 hj x2 x3 y => ?_⟩
    obtain ⟨eH, ex⟩ := y
    obtain ⟨w, hw, hwd⟩ := dpA_get hds (List.getElem?_eq_getElem hj)
    rw [hw] at ex
    cases ex
    exact ⟨_, List.getElem?_eq_getElem hj, .inl ⟨eH, dp_mono x2 hwd⟩⟩
theorem ewe_rng1 {P : List PyData → Env → Prop} (h : EvA K tr env fun as e => ∃ n : Int, as = [.int n] ∧ (n ≤ 100000 ∧ -100000 ≤ n) ∧ P (intsD 0 n.toNat) e) : EvWE K (iRng1 tr) env P := fun F I0 I σ H E R q =>
  h F I0 I σ H E _ fun vs I1 H1 ds e E1 x1 hd ⟨n, ed, hn, hp⟩ => by
    subst ed
    cases hd with
    | cons h1 h2 =>
      cases h2
      cases dp_int h1
      refine ⟨n, rfl, by omega, by omega, q _ I1 H1 _ _ _ e hp E1 x1 (by rw [intsD_len]; exact walk_range (lo := 0) (n := n.toNat)) (fun H2 x => trivial) fun j H2 x H3 I2 hj x2 x3 y => ?_⟩
      obtain ⟨eH, ex⟩ := y
      subst ex
      rw [intsD_len] at hj
      exact ⟨_, intsD_get hj, .inl ⟨eH, .int _⟩⟩
/-- a for over it -/
theorem run_forE {wi : TI} {g : TG} (hw : EvWE K wi env fun ds e0 => ∃ In : Nat → Env → Prop, In 0 e0 ∧ (∀ (j : Nat) (d : PyData) (e : Env), ds[j]? = some d → In j e → Tgt K g d e fun e' => Run K t e' ⟨In (j + 1), P.rt, P.nx, In (j + 1)⟩) ∧ ∀ e, In ds.length e → P.nx e) : Run K (tFor wi g t) env P := fun F I0 I σ H D E A =>
  hw F I0 I σ H E _ fun J I1 H1 G Y ds e0 ⟨In, h0, hs, hd⟩ E1 x1 W hG hY => by
    refine for_it W (fun j σ' H' => ∃ I' e, EnvI K F I0 I' σ' H' e ∧ Ex I1 I' ∧ In j e) ⟨I1, e0, E1, Ex.refl _, h0⟩ (fun j σ' H' _ ⟨I', e, E', x', _⟩ => hG H' (x'.trans E'.ih)) (fun j x σ' H' H3 hj hP hy => ?_) (fun σ' H' ⟨I', e, E', _, p⟩ => A.nx I' σ' H' e E' (hd e p))
    obtain ⟨I', e, E', x', p⟩ := hP
    obtain ⟨d, hdj, hx⟩ := hY j H' x H3 I' hj x' E'.ih hy
    have go : ∀ I3, Ex I' I3 → EnvI K F I0 I3 σ' H3 e → Dq K I3 x d → g x σ' H3 fun σ2 H2 => t { D with nx := fun σ' H' => ∃ I' e, EnvI K F I0 I' σ' H' e ∧ Ex I1 I' ∧ In (j + 1) e, ct := fun σ' H' => ∃ I' e, EnvI K F I0 I' σ' H' e ∧ Ex I1 I' ∧ In (j + 1) e, bk := D.nx } σ2 H2 := fun I3 x3 E3 hxd =>
      hs j d e hdj p F I0 I3 σ' H3 x E3 hxd _ fun σ2 e2 E2 r _ => by
        have E2' : EnvI K F I3 I3 σ2 H3 e2 := ⟨E2.fh, Ex.refl _, E2.ih, fun a h1 h2 => h2, E2.len, E2.at_, E2.ne⟩
        have back : ∀ {I4 : Hp} {σ4 : L2.St} {H4 : Hp} {e4 : Env}, EnvI K F I3 I4 σ4 H4 e4 → EnvI K F I0 I4 σ4 H4 e4 := fun {I4 σ4 H4 e4} E4 => ⟨E4.fh, E2.oi.trans E4.oi, E4.ih, fun a h1 h2 => E4.fr a h1 (E2.fr a h1 h2), E4.len, E4.at_, E4.ne⟩
        exact r F I3 I3 σ2 H3 _ E2' ⟨fun I4 σ4 H4 e4 E4 q => ⟨I4, e4, back E4, (x'.trans x3).trans E4.oi, q⟩, fun v I4 σ4 H4 d4 e4 E4 hd4 q => A.rt v I4 σ4 H4 d4 e4 (back E4) hd4 q, fun I4 σ4 H4 e4 E4 q => A.nx I4 σ4 H4 e4 (back E4) q, fun I4 σ4 H4 e4 E4 q => ⟨I4, e4, back E4, (x'.trans x3).trans E4.oi, q⟩⟩
    rcases hx with ⟨eH, hxd⟩ | ⟨T, o, hT, eH, hxd⟩
    · subst eH
      exact go I' (Ex.refl _) E' hxd
    · subst eH
      exact go _ (Ex.new (E'.ih.back hT)) (E'.newD hT) hxd
end
end Lw

set_option Elab.async false
set_option linter.all false
set_option autoImplicit false
set_option maxRecDepth 100000
set_option maxHeartbeats 4000000
/-! Nets, as data: what is one, and the first of what isn't so. -/
namespace Nt
open PySem PySem.Spec PyProof.Rows L2 Lw
/-! ### data of a bounded form -/
def okS (z : Str) : Bool := PyData.strOk z && decide (z.length ≤ 100)
def gd : Nat → PyData → Bool
  | _, .none | _, .bool _ | _, .int _ => true
  | _, .str z => okS z
  | 0, .list _ | 0, .tuple _ | 0, .dict _ => false
  | n + 1, .list ds | n + 1, .tuple ds => decide (ds.length ≤ 1000) && ds.all (gd n)
  | _ + 1, .dict _ => false
theorem gd_tup {n : Nat} {ds : List PyData} (h : gd n (.tuple ds) = true) : ∃ m, n = m + 1 ∧ ds.length ≤ 1000 ∧ ∀ d ∈ ds, gd m d = true := by
  cases n with
  | zero => exact absurd h (by simp [gd])
  | succ m =>
    simp only [gd, Bool.and_eq_true, decide_eq_true_eq, List.all_eq_true] at h
    exact ⟨m, rfl, h.1, h.2⟩
theorem gd_str {n : Nat} {z : Str} (h : gd n (.str z) = true) : okS z = true := by
  cases n <;> simpa [gd] using h
theorem okS_len {z : Str} (h : okS z = true) : z.length ≤ 100 := by
  unfold okS at h
  rw [Bool.and_eq_true] at h
  exact of_decide_eq_true h.2
mutual
theorem gd_lay : ∀ (n : Nat) (d : PyData), gd n d = true → d.canLay0 = true ∧ d.depth ≤ n
  | n, .none, _ => by simp [PyData.canLay0, PyData.depth]
  | n, .bool _, _ => by simp [PyData.canLay0, PyData.depth]
  | n, .int _, _ => by simp [PyData.canLay0, PyData.depth]
  | n, .str z, h => by
    have q := gd_str h
    unfold okS at q
    rw [Bool.and_eq_true] at q
    simp [PyData.canLay0, PyData.depth, q.1]
  | 0, .list _, h => by simp [gd] at h
  | 0, .tuple _, h => by simp [gd] at h
  | 0, .dict _, h => by simp [gd] at h
  | n + 1, .list ds, h => by
    simp only [gd, Bool.and_eq_true] at h
    have q := gd_layAll n ds h.2
    simp only [PyData.canLay0, PyData.depth]
    exact ⟨q.1, by omega⟩
  | n + 1, .tuple ds, h => by
    simp only [gd, Bool.and_eq_true] at h
    have q := gd_layAll n ds h.2
    simp only [PyData.canLay0, PyData.depth]
    exact ⟨q.1, by omega⟩
  | n + 1, .dict _, h => by simp [gd] at h
theorem gd_layAll : ∀ (n : Nat) (ds : List PyData), ds.all (gd n) = true → PyData.canLayAll0 ds = true ∧ PyData.depthAll ds ≤ n
  | _, [], _ => by simp [PyData.canLayAll0, PyData.depthAll]
  | n, d :: ds, h => by
    rw [List.all_cons, Bool.and_eq_true] at h
    have q1 := gd_lay n d h.1
    have q2 := gd_layAll n ds h.2
    simp only [PyData.canLayAll0, PyData.depthAll, q1.1, q2.1]
    exact ⟨rfl, by omega⟩
end
theorem gd_shaped {n : Nat} {d : PyData} (h : gd n d = true) (hn : n ≤ 64) : SeqAt.shaped d = true := by
  obtain ⟨h1, h2⟩ := gd_lay n d h
  unfold SeqAt.shaped
  rw [h1, decide_eq_true (by omega : d.depth ≤ 64)]
  rfl
mutual
theorem gd_up : ∀ (n : Nat) (d : PyData), gd n d = true → gd (n + 1) d = true
  | n, .none, _ => by simp [gd]
  | n, .bool _, _ => by simp [gd]
  | n, .int _, _ => by simp [gd]
  | n, .str z, h => by
    have q := gd_str h
    simp [gd, q]
  | 0, .list _, h => by simp [gd] at h
  | 0, .tuple _, h => by simp [gd] at h
  | 0, .dict _, h => by simp [gd] at h
  | n + 1, .list ds, h => by
    simp only [gd, Bool.and_eq_true] at h ⊢
    exact ⟨h.1, gd_upAll n ds h.2⟩
  | n + 1, .tuple ds, h => by
    simp only [gd, Bool.and_eq_true] at h ⊢
    exact ⟨h.1, gd_upAll n ds h.2⟩
  | n + 1, .dict _, h => by simp [gd] at h
theorem gd_upAll : ∀ (n : Nat) (ds : List PyData), ds.all (gd n) = true → ds.all (gd (n + 1)) = true
  | _, [], _ => rfl
  | n, d :: ds, h => by
    rw [List.all_cons, Bool.and_eq_true] at h ⊢
    exact ⟨gd_up n d h.1, gd_upAll n ds h.2⟩
end
theorem gd_mono {d : PyData} {n : Nat} (h : gd n d = true) : ∀ {m : Nat}, n ≤ m → gd m d = true := by
  intro m hm
  obtain ⟨k, rfl⟩ : ∃ k, m = n + k := ⟨m - n, by omega⟩
  clear hm
  induction k with
  | zero => exact h
  | succ k ih => exact gd_up _ _ ih
/-- what stands in good data is good -/
theorem gd_in {n : Nat} {ds : List PyData} (h : gd n (.tuple ds) = true) {d : PyData} (hd : d ∈ ds) : gd n d = true := by
  obtain ⟨m, rfl, _, q⟩ := gd_tup h
  exact gd_up _ _ (q d hd)
theorem gd_len {n : Nat} {ds : List PyData} (h : gd n (.tuple ds) = true) : ds.length ≤ 1000 := by
  obtain ⟨m, rfl, q, _⟩ := gd_tup h
  exact q
/-! ### what is what -/
def letters : Str := "abcdefghijklmnopqrstuvwxyz"
def wordSigns : Str := "abcdefghijklmnopqrstuvwxyz0123456789"
def kept : List Str := ["place", "fire", "as"]
def isWhole : PyData → Bool
  | .int _ => true
  | _ => false
def isIntB : PyData → Bool
  | .int _ | .bool _ => true
  | _ => false
def isBool : PyData → Bool
  | .bool _ => true
  | _ => false
def isStr : PyData → Bool
  | .str _ => true
  | _ => false
def isTup : PyData → Bool
  | .tuple _ => true
  | _ => false
def nameOk (z : Str) : Bool := match z.cps.toList with
  | [] => false
  | c :: cs => decide (z.length ≤ 8) && !(kept.contains z) && decide (c ∈ letters.cps.toList) && (c :: cs).all fun c => decide (c ∈ wordSigns.cps.toList)
def isName : PyData → Bool
  | .str z => nameOk z
  | _ => false
def isTupleOf (d : PyData) (n : Int) : Bool := match d with
  | .tuple ds => decide ((ds.length : Int) = n)
  | _ => false
def countOk (d : PyData) (least : Int) : Bool := match d with
  | .int i => decide (least ≤ i) && decide (i ≤ 999999999)
  | _ => false
def isCounted (d : PyData) (least : Int) : Bool := match d with
  | .tuple [a, b] => isName a && countOk b least
  | _ => false
def isParts : PyData → Bool
  | .tuple ds => ds.all fun d => isCounted d 1
  | _ => false
def isLabel (d : PyData) : Bool := PyData.eqv d (.str "") || isName d
def isFiring : PyData → Bool
  | .tuple [a, b, c, e] => isName a && isLabel b && isParts c && isParts e
  | _ => false
theorem kb_NoneType_str : kitB "NoneType" "str" = some false := by decide +kernel
theorem kb_bool_str : kitB "bool" "str" = some false := by decide +kernel
theorem kb_int_str : kitB "int" "str" = some false := by decide +kernel
theorem kb_str_str : kitB "str" "str" = some true := by decide +kernel
theorem kb_list_str : kitB "list" "str" = some false := by decide +kernel
theorem kb_tuple_str : kitB "tuple" "str" = some false := by decide +kernel
theorem kb_NoneType_int : kitB "NoneType" "int" = some false := by decide +kernel
theorem kb_bool_int : kitB "bool" "int" = some true := by decide +kernel
theorem kb_int_int : kitB "int" "int" = some true := by decide +kernel
theorem kb_str_int : kitB "str" "int" = some false := by decide +kernel
theorem kb_list_int : kitB "list" "int" = some false := by decide +kernel
theorem kb_tuple_int : kitB "tuple" "int" = some false := by decide +kernel
theorem kb_NoneType_bool : kitB "NoneType" "bool" = some false := by decide +kernel
theorem kb_bool_bool : kitB "bool" "bool" = some true := by decide +kernel
theorem kb_int_bool : kitB "int" "bool" = some false := by decide +kernel
theorem kb_str_bool : kitB "str" "bool" = some false := by decide +kernel
theorem kb_list_bool : kitB "list" "bool" = some false := by decide +kernel
theorem kb_tuple_bool : kitB "tuple" "bool" = some false := by decide +kernel
theorem kb_NoneType_tuple : kitB "NoneType" "tuple" = some false := by decide +kernel
theorem kb_bool_tuple : kitB "bool" "tuple" = some false := by decide +kernel
theorem kb_int_tuple : kitB "int" "tuple" = some false := by decide +kernel
theorem kb_str_tuple : kitB "str" "tuple" = some false := by decide +kernel
theorem kb_list_tuple : kitB "list" "tuple" = some false := by decide +kernel
theorem kb_tuple_tuple : kitB "tuple" "tuple" = some true := by decide +kernel
theorem kb_NoneType_list : kitB "NoneType" "list" = some false := by decide +kernel
theorem kb_bool_list : kitB "bool" "list" = some false := by decide +kernel
theorem kb_int_list : kitB "int" "list" = some false := by decide +kernel
theorem kb_str_list : kitB "str" "list" = some false := by decide +kernel
theorem kb_list_list : kitB "list" "list" = some true := by decide +kernel
theorem kb_tuple_list : kitB "tuple" "list" = some false := by decide +kernel
/-! ### the first of what isn't so -/
def nameD : PyData → Str
  | .tuple (.str z :: _) => z
  | _ => ""
def seqD : PyData → List PyData
  | .tuple ds => ds
  | _ => []
def itemD (d : PyData) (j : Nat) : PyData := (seqD d).getD j .none
def placesWrong : Nat → List Str → List PyData → PyData
  | _, _, [] => .none
  | k, ah, p :: ps => if (!isCounted p 0 || ah.contains (nameD p)) = true then .tuple [.str "place", .int k] else placesWrong (k + 1) (nameD p :: ah) ps
def badIn (num : Str → Option Int) : Int → Int → List PyData → Int ⊕ Int
  | j, _, [] => .inr j
  | j, last, p :: ps => match num (nameD p) with
    | none => .inl j
    | some n => if n ≤ last then .inl j else badIn num (j + 1) n ps
def badAll (num : Str → Option Int) : Int → List (List PyData) → PyData
  | _, [] => .none
  | j, ps :: r => match badIn num j (-1) ps with
    | .inl j => .int j
    | .inr j => badAll num j r
def badPart (num : Str → Option Int) (f : PyData) : PyData := badAll num 0 [seqD (itemD f 2), seqD (itemD f 3)]
def firingsWrong (num : Str → Option Int) : Nat → List Str → List PyData → PyData
  | _, _, [] => .none
  | k, ah, f :: fs => if (!isFiring f || ah.contains (nameD f)) = true then .tuple [.str "firing", .int k]
    else if isNoneD (badPart num f) = true then firingsWrong num (k + 1) (nameD f :: ah) fs else .tuple [.str "part", .int k, badPart num f]
def keyD (d : PyData) : Key := .inr (nameD (itemD d 1))
def numKv (ps : List PyData) : List (Key × V) := dictOfD keyD (fun d => toV (itemD d 0)) (pairsD 0 ps)
def numOf (kvs : List (Key × V)) (z : Str) : Option Int := match valV kvs (.inr z : Key) with
  | some (.int i) => some i
  | _ => none
def oneD (z : Str) : PyData := .tuple [.str z]
def netWrong2 (ps fs : List PyData) : PyData :=
  let w := placesWrong 0 [] ps
  let w := if isNoneD w = true then firingsWrong (numOf (numKv ps)) 0 [] fs else w
  if (isNoneD w && (decide (40 < (ps.length : Int)) || decide (60 < (fs.length : Int)))) = true then oneD "great" else w
def netWrong : PyData → PyData
  | .tuple [.tuple ps, .tuple fs] => if ps.isEmpty then oneD "net" else netWrong2 ps fs
  | _ => oneD "net"
theorem counted_form {p : PyData} {l : Int} (h : isCounted p l = true) : ∃ z i, p = .tuple [.str z, .int i] ∧ nameOk z = true ∧ l ≤ i ∧ i ≤ 999999999 := by
  unfold isCounted at h
  split at h
  · rename_i a b
    rw [Bool.and_eq_true] at h
    obtain ⟨h1, h2⟩ := h
    cases a with
    | str z =>
      cases b with
      | int i =>
        unfold countOk at h2
        simp only [Bool.and_eq_true, decide_eq_true_eq] at h2
        exact ⟨z, i, rfl, h1, h2.1, h2.2⟩
      | _ => cases h2
    | _ => cases h1
  · cases h
theorem parts_form {d : PyData} (h : isParts d = true) : ∃ ds, d = .tuple ds ∧ ∀ x ∈ ds, isCounted x 1 = true := by
  cases d with
  | tuple ds => exact ⟨ds, rfl, List.all_eq_true.mp h⟩
  | _ => cases h
theorem firing_form {f : PyData} (h : isFiring f = true) : ∃ z l t g, f = .tuple [.str z, l, t, g] ∧ nameOk z = true ∧ isLabel l = true ∧ isParts t = true ∧ isParts g = true := by
  unfold isFiring at h
  split at h
  · rename_i a b c e
    simp only [Bool.and_eq_true] at h
    obtain ⟨⟨⟨h1, h2⟩, h3⟩, h4⟩ := h
    cases a with
    | str z => exact ⟨z, b, c, e, rfl, h1, h2, h3, h4⟩
    | _ => cases h1
  · cases h
theorem placesWrong_none : ∀ (ps : List PyData) (k : Nat) (ah : List Str), isNoneD (placesWrong k ah ps) = true → ∀ p ∈ ps, isCounted p 0 = true
  | [], _, _, _, p, hp => by cases hp
  | q :: ps, k, ah, h, p, hp => by
    unfold placesWrong at h
    split at h
    · cases h
    · rename_i hc
      rcases List.mem_cons.mp hp with rfl | hp
      · simp only [Bool.or_eq_true, Bool.not_eq_true', not_or] at hc
        simpa using hc.1
      · exact placesWrong_none ps _ _ h p hp
theorem dictOfD_val {key : PyData → Key} {val : PyData → V} {k : Key} {v : V} : ∀ {ds : List PyData}, valV (dictOfD key val ds) k = some v → ∃ d ∈ ds, v = val d := by
  intro ds
  have h : ∀ (ds : List PyData) (acc : List (Key × V)), valV (ds.foldl (fun acc d => putK acc (key d) (val d)) acc) k = some v → (∃ d ∈ ds, v = val d) ∨ valV acc k = some v := by
    intro ds
    induction ds with
    | nil => intro acc h; exact .inr h
    | cons d ds ih =>
      intro acc h
      rw [List.foldl_cons] at h
      rcases ih _ h with ⟨x, hx, e⟩ | h
      · exact .inl ⟨x, List.mem_cons_of_mem _ hx, e⟩
      · rw [valV_put] at h
        split at h
        · exact .inl ⟨d, List.mem_cons_self, (Option.some.inj h).symm⟩
        · exact .inr h
  intro e
  rcases h ds [] e with h | h
  · exact h
  · cases h
theorem numKv_ok (ps : List PyData) : ∀ z v, valV (numKv ps) (.inr z : Key) = some v → ∃ i, v = .int i := fun z v h => by
  obtain ⟨d, hd, rfl⟩ := dictOfD_val h
  obtain ⟨j, hj⟩ := List.getElem?_of_mem hd
  obtain ⟨p, hp, rfl⟩ := pairsD_get hj
  exact ⟨_, rfl⟩
end Nt

set_option Elab.async false
set_option linter.all false
set_option autoImplicit false
set_option maxRecDepth 100000
set_option maxHeartbeats 4000000
namespace Nt
open PySem PySem.Spec PyProof.Rows L2 Lw
/-! ### the text -/
def topS (i : Nat) : Stmt := PySem.Challenge.pw_tokenfold_k05_what_is_no_net.main.body.getD i (.Pass ⟨0, 0, 0, 0⟩)
abbrev sWhole : Stmt := topS 8
abbrev sName : Stmt := topS 9
abbrev sTupOf : Stmt := topS 10
abbrev sCounted : Stmt := topS 11
abbrev sParts : Stmt := topS 12
abbrev sFiring : Stmt := topS 13
abbrev sNumbers : Stmt := topS 14
abbrev sNet : Stmt := topS 15
abbrev sPlaces : Stmt := topS 16
abbrev sFirings : Stmt := topS 17
abbrev sBad : Stmt := topS 18
structure Bi (mg : Str → Option Value) : Prop where
  len : mg "len" = none
  isi : mg "isinstance" = none
  str : mg "str" = none
  int : mg "int" = none
  bool : mg "bool" = none
  tup : mg "tuple" = none
  list : mg "list" = none
  all : mg "all" = none
  enum : mg "enumerate" = none
  range : mg "range" = none
  max : mg "max" = none
  min : mg "min" = none
structure Nc (K : PySem.W.Frag) (mg : Str → Option Value) : Prop where
  let_ : ∃ u, mg "LETTERS" = some u ∧ RelV (.str letters) u
  ws : ∃ u, mg "WORD_SIGNS" = some u ∧ RelV (.str wordSigns) u
  kw : ∃ a : Addr, (∃ u, mg "KEPT_WORDS" = some u ∧ RelV (.ref a) u) ∧ ∀ H, SqT K H a (kept.map V.str)
  ln : ∃ u, mg "LONGEST_NAME" = some u ∧ RelV (.int 8) u
  gr : ∃ u, mg "GREATEST" = some u ∧ RelV (.int 999999999) u
  mp : ∃ u, mg "MOST_PLACES" = some u ∧ RelV (.int 40) u
  mf : ∃ u, mg "MOST_FIRINGS" = some u ∧ RelV (.int 60) u
theorem bt {X : Cx} {x : Str} {n : String} {pos : Pos} (hm : X.mg x = none) (hv : bootBuiltins x = some (.type n)) (hg : Gl X x := by rfl) (hn : x ≠ "__name__" := by decide) (hd : (x == ("__debug__" : Str)) = false := by decide) : PE X (.Name x pos) (tC (.ty n)) := pe_bltn hg hm hv rfl hn hd
section
variable {P : Program} {w : World} {K : PySem.W.Frag} {mg : Str → Option Value} {base : Heap} {env : Lw.Env} {te : TE} {d : PyData}
/-! isinstance, by kinds -/
theorem isi_str (h : EvP K te env d) (hd : ∀ kvs, d ≠ .dict kvs) : EvP K (tCB (rIsi K) (tCons te (tCons (tC (.ty "str")) tNil))) env (.bool (isStr d)) := ep_isi h (by
  cases d <;> first | exact kb_NoneType_str | exact kb_bool_str | exact kb_int_str | exact kb_str_str | exact kb_list_str | exact kb_tuple_str | exact absurd rfl (hd _))
theorem isi_int (h : EvP K te env d) (hd : ∀ kvs, d ≠ .dict kvs) : EvP K (tCB (rIsi K) (tCons te (tCons (tC (.ty "int")) tNil))) env (.bool (isIntB d)) := ep_isi h (by
  cases d <;> first | exact kb_NoneType_int | exact kb_bool_int | exact kb_int_int | exact kb_str_int | exact kb_list_int | exact kb_tuple_int | exact absurd rfl (hd _))
theorem isi_bool (h : EvP K te env d) (hd : ∀ kvs, d ≠ .dict kvs) : EvP K (tCB (rIsi K) (tCons te (tCons (tC (.ty "bool")) tNil))) env (.bool (isBool d)) := ep_isi h (by
  cases d <;> first | exact kb_NoneType_bool | exact kb_bool_bool | exact kb_int_bool | exact kb_str_bool | exact kb_list_bool | exact kb_tuple_bool | exact absurd rfl (hd _))
theorem isi_tup (h : EvP K te env d) (hd : ∀ kvs, d ≠ .dict kvs) : EvP K (tCB (rIsi K) (tCons te (tCons (tC (.ty "tuple")) tNil))) env (.bool (isTup d)) := ep_isi h (by
  cases d <;> first | exact kb_NoneType_tuple | exact kb_bool_tuple | exact kb_int_tuple | exact kb_str_tuple | exact kb_list_tuple | exact kb_tuple_tuple | exact absurd rfl (hd _))
theorem gd_nd {n : Nat} (h : gd n d = true) : ∀ kvs, d ≠ .dict kvs := fun kvs e => by
  subst e
  cases n <;> simp [gd] at h
abbrev P1 (n : Nat) : List PyData → Prop := fun ds => ∃ a, ds = [a] ∧ gd n a = true
/-! ### is_whole -/
theorem scWhole : FnScope ["thing"] ["thing"] (defScope sWhole) := ⟨rfl, rfl, rfl, by decide +kernel, rfl, by decide +kernel, by decide +kernel⟩
theorem ok_whole (D : DefAt K mg "is_whole" sWhole ["thing"]) (B : Bi mg) : Cal P w K mg base 1 "is_whole" (spD K (P1 20) fun ds r => ∃ a, ds = [a] ∧ r = .bool (isWhole a)) := by
  refine D.calD scWhole (fun ds ⟨a, e, _⟩ => by rw [e]; rfl) fun f cdv A outer s H E hr => ⟨_, pss_one (ps_ret (pe_and (pe_callB call_isi (by rfl) B.isi PyProof.Rows.boot_isinstance (pa_cons (pv 0) (pa_cons (bt B.int PyProof.Rows.boot_int) pa_nil)))
    (pe_one (pe_not (pe_callB call_isi (by rfl) B.isi PyProof.Rows.boot_isinstance (pa_cons (pv 0) (pa_cons (bt B.bool PyProof.Rows.boot_bool) pa_nil))))))), ?_⟩
  rintro ds ⟨a, rfl, ha⟩
  refine run_retP (ep_andV (isi_int (ep_var rfl) (gd_nd ha)) fun _ => ep_notV (isi_bool (ep_var rfl) (gd_nd ha))) ⟨a, rfl, ?_⟩
  cases a <;> rfl
/-! ### is_name -/
theorem scName : FnScope ["thing", "sign"] ["thing"] (defScope sName) := ⟨rfl, rfl, rfl, by decide +kernel, rfl, by decide +kernel, by decide +kernel⟩
theorem inV_str (z : Str) : ∀ ks : List Str, inV (.str z) (ks.map V.str) = ks.contains z
  | [] => rfl
  | k :: ks => by
    show ((k == z) || inV (.str z) (ks.map V.str)) = _
    rw [inV_str z ks, List.contains_cons, Bool.beq_comm]
theorem ok_name (D : DefAt K mg "is_name" sName ["thing"]) (B : Bi mg) (C : Nc K mg) : Cal P w K mg base 1 "is_name" (spD K (P1 20) fun ds r => ∃ a, ds = [a] ∧ r = .bool (isName a)) := by
  obtain ⟨ka, hka, hks⟩ := C.kw
  refine D.calD scName (fun ds ⟨a, e, _⟩ => by rw [e]; rfl) fun f cdv A outer s H E hr => ⟨_, pss_cons (ps_if (pw_or (pt_not (pt_val (pe_callB call_isi (by rfl) B.isi PyProof.Rows.boot_isinstance (pa_cons (pv 0) (pa_cons (bt B.str PyProof.Rows.boot_str) pa_nil)))))
      (pw_or (pt_cmpR op_lt (pe_callB call_len (by rfl) B.len PySem.boot_len (pa_cons (pv 0) pa_nil)) pe_int (nomark _))
      (pw_or (pt_cmpR op_gt (pe_callB call_len (by rfl) B.len PySem.boot_len (pa_cons (pv 0) pa_nil)) (gk C.ln) (nomark _))
      (pw_or1 (pt_cmpR op_in_seq (pv 0) (gk hka) (by with_unfolding_all rfl)))))).pt (pss_one (ps_ret pe_bl)) pss_nil)
    (pss_one (ps_ret (pe_and (pe_cmpR op_inS (pe_ix ix_str (pv 0) pe_int (fun _ _ => rfl)) (gk C.let_) (by with_unfolding_all rfl))
      (pe_one (pe_callB (cr_all rfl) (by rfl) B.all (by decide +kernel) (pa_cons (pe_lc (own := [("sign", 1)]) (g := gName 1) (tt := tYes) rfl scName.nd (pi_str (pv 0)) (blkOk_by (own := [("sign", 1)]) (N := ["thing", "sign"]) (sc := defScope sName) (by decide +kernel)) (fun _ _ _ _ _ => pg_name (i := 1) scName.nd rfl (Or.inl rfl)) (fun _ _ _ _ _ => pts_nil)
        (fun _ _ _ _ _ => pe_cmpR op_inS (pv 1) (gk C.ws) (by with_unfolding_all rfl))) pa_nil)))))), ?_⟩
  rintro ds ⟨a, rfl, ha⟩
  by_cases hs : isStr a = true
  · obtain ⟨z, rfl⟩ : ∃ z, a = .str z := by cases a <;> first | exact ⟨_, rfl⟩ | cases hs
    have hl := okS_len (gd_str ha)
    have hlen : lenD (.str z) = some z.length := if_pos (Nat.le_trans hl (by decide))
    have kd : ∀ I, Dq K I (.ref ka) (.tuple (kept.map PyData.str)) := fun I => .tup (hks I) (dq_strs kept)
    refine run_seq (run_ifP (ept_or (et_is (ept_not (ept_b (isi_str (ep_var rfl) (gd_nd ha)))) (show (!isStr (.str z)) = false from rfl)) fun _ =>
      ept_or (ept_test (ep_op (ep_cb (ea_cons (ep_var rfl) ea_nil) (rc_len hlen)) ep_int rd_IB)) fun _ =>
      ept_or (ept_test (ep_op (ep_cb (ea_cons (ep_var rfl) ea_nil) (rc_len hlen)) (ep_c fun _ => .int 8) rd_IB)) fun _ =>
      ept_test (ep_op (ep_var rfl) (ep_c kd) (rd_in (neg := false) (ds := kept.map PyData.str) rfl rfl (by decide +kernel)))) (fun h => ?_) fun h => run_next ?_)
    · refine run_retP ep_bl ⟨_, rfl, ?_⟩
      have hm : ((kept.map PyData.str).map toV) = kept.map V.str := rfl
      rw [hm, show toV (.str z) = V.str z from rfl, inV_str] at h
      show PyData.bool false = .bool (nameOk z)
      unfold nameOk
      split
      · rfl
      · rename_i c cs hc
        have hz : z.length = (c :: cs).length := by rw [← hc]; exact (Array.length_toList (xs := z.cps)).symm
        have h1 : ((z.length : Int) < 1) = False := eq_false (by rw [hz, List.length_cons]; omega)
        rw [decide_eq_false (by rw [hz, List.length_cons]; omega)] at h
        simp only [Bool.false_or, Bool.or_eq_true, decide_eq_true_eq] at h
        rcases h with h | h
        · rw [decide_eq_false (by omega : ¬ z.length ≤ 8)]
          rfl
        · have h' : kept.contains z = true := by simpa using h
          rw [h']
          simp
    · have hm : ((kept.map PyData.str).map toV) = kept.map V.str := rfl
      rw [hm, show toV (.str z) = V.str z from rfl, inV_str] at h
      simp only [Bool.false_or, Bool.or_eq_false_iff, decide_eq_false_iff_not] at h
      obtain ⟨h1, h2, h3⟩ := h
      have h3' : kept.contains z = false := by simpa using h3
      obtain ⟨c, cs, hc⟩ : ∃ c cs, z.cps.toList = c :: cs := by
        cases e : z.cps.toList with
        | nil =>
          have : z.length = 0 := by
            show z.cps.size = 0
            rw [← Array.length_toList, e]
            rfl
          omega
        | cons c cs => exact ⟨c, cs, rfl⟩
      have hsg : Lw.signs z = (c :: cs).map fun c => PyData.str ⟨#[c]⟩ := by unfold Lw.signs; rw [hc]
      refine run_retP (ep_andV (ep_op (ep_op (ep_var rfl) ep_int (rd_ixS (by omega) (show atI z.cps.toList 0 = some c by rw [hc]; exact atI_nat (j := 0) rfl))) (ep_c fun _ => .str letters) rd_inS) fun _ => ep_cb (ea_cons (ep_is (ep_lcA (vs := [1]) (ew_str (ep_var rfl)) rfl (by unfold Lw.signs; rw [List.length_map, Array.length_toList]; exact Nat.le_trans hl (by decide)) (own_name (by simp))
          (fun d => .bool (match d with | .str x => decide (x.cps.getD 0 0 ∈ wordSigns.cps.toList) | _ => false)) fun d hd => tgt_name ⟨rfl, by
            obtain ⟨c, _, rfl⟩ := List.mem_map.mp hd
            exact ep_op (ep_var (d := .str ⟨#[c]⟩) rfl) (ep_c fun _ => .str wordSigns) rd_inS⟩) (show _ = PyData.list (((c :: cs).map fun c => decide (c ∈ wordSigns.cps.toList)).map PyData.bool) by rw [hsg, List.map_map, List.map_map]; rfl)) ea_nil) rc_all) ⟨_, rfl, ?_⟩
      show _ = PyData.bool (nameOk z)
      unfold nameOk
      rw [hc]
      show PyData.bool (decide (c ∈ letters.cps.toList) && ((c :: cs).map fun c => decide (c ∈ wordSigns.cps.toList)).all id) = PyData.bool (decide (z.length ≤ 8) && !(kept.contains z) && decide (c ∈ letters.cps.toList) && (c :: cs).all fun c => decide (c ∈ wordSigns.cps.toList))
      rw [decide_eq_true (by omega : z.length ≤ 8), h3', List.all_map]
      rfl
  · have hs' : isStr a = false := by simpa using hs
    refine run_seq (run_ifP (ept_or1 (et_is (ept_not (ept_b (isi_str (ep_var rfl) (gd_nd ha)))) (show (!isStr a) = true by rw [hs']; rfl))) (fun h => run_retP ep_bl ⟨_, rfl, ?_⟩) fun h => by cases h)
    cases a <;> first | rfl | cases hs'
abbrev P1I (n : Nat) : List PyData → Prop := fun ds => ∃ a i, ds = [a, .int i] ∧ gd n a = true
/-! ### is_tuple_of -/
theorem scTupOf : FnScope ["thing", "many"] ["thing", "many"] (defScope sTupOf) := ⟨rfl, rfl, rfl, by decide +kernel, rfl, by decide +kernel, by decide +kernel⟩
theorem ok_tupOf (D : DefAt K mg "is_tuple_of" sTupOf ["thing", "many"]) (B : Bi mg) : Cal P w K mg base 1 "is_tuple_of" (spD K (P1I 20) fun ds r => ∃ a i, ds = [a, .int i] ∧ r = .bool (isTupleOf a i)) := by
  refine D.calD scTupOf (fun ds ⟨a, i, e, _⟩ => by rw [e]; rfl) fun f cdv A outer s H E hr => ⟨_, pss_one (ps_ret (pe_and (pe_callB call_isi (by rfl) B.isi PyProof.Rows.boot_isinstance (pa_cons (pv 0) (pa_cons (bt B.tup PyProof.Rows.boot_tuple) pa_nil)))
    (pe_one (pe_cmpR op_eq (pe_callB call_len (by rfl) B.len PySem.boot_len (pa_cons (pv 0) pa_nil)) (pv 1) (nomark _))))), ?_⟩
  rintro ds ⟨a, i, rfl, ha⟩
  cases ht : isTup a with
  | true =>
    obtain ⟨ds, rfl⟩ : ∃ ds, a = .tuple ds := by cases a <;> first | exact ⟨_, rfl⟩ | cases ht
    exact run_retP (ep_andV (isi_tup (ep_var rfl) (gd_nd ha)) fun _ => ep_op (ep_cb (ea_cons (ep_var rfl) ea_nil) (rc_len rfl)) (ep_var rfl) rd_eqI) ⟨_, _, rfl, by rw [show isTup (.tuple ds) = true from rfl]; rfl⟩
  | false =>
    refine run_retP (ep_and0 (ep_is (isi_tup (ep_var rfl) (gd_nd ha)) (by rw [ht]))) ⟨_, _, rfl, ?_⟩
    cases a <;> first | rfl | cases ht
abbrev spWhole (K : PySem.W.Frag) : Sp := spD K (P1 20) fun ds r => ∃ a, ds = [a] ∧ r = .bool (isWhole a)
abbrev spName (K : PySem.W.Frag) : Sp := spD K (P1 20) fun ds r => ∃ a, ds = [a] ∧ r = .bool (isName a)
abbrev spTupOf (K : PySem.W.Frag) : Sp := spD K (P1I 20) fun ds r => ∃ a i, ds = [a, .int i] ∧ r = .bool (isTupleOf a i)
abbrev spCounted (K : PySem.W.Frag) : Sp := spD K (P1I 20) fun ds r => ∃ a i, ds = [a, .int i] ∧ r = .bool (isCounted a i)
abbrev spParts (K : PySem.W.Frag) : Sp := spD K (P1 20) fun ds r => ∃ a, ds = [a] ∧ r = .bool (isParts a)
abbrev spFiring (K : PySem.W.Frag) : Sp := spD K (P1 20) fun ds r => ∃ a, ds = [a] ∧ r = .bool (isFiring a)
theorem call1 {tr : TA} {a c : PyData} {Ps : List PyData → PyData → Prop} {E0 : XK} (h : EvPA K tr env [a]) (hp : gd 20 a = true) (hk : ∀ d, Ps [a] d → d = c) : EvP K (tCall (spD K (P1 20) Ps) [] E0 tr) env c := ep_callD h ⟨a, rfl, hp⟩ hk
theorem call1I {tr : TA} {a c : PyData} {i : Int} {Ps : List PyData → PyData → Prop} {E0 : XK} (h : EvPA K tr env [a, .int i]) (hp : gd 20 a = true) (hk : ∀ d, Ps [a, .int i] d → d = c) : EvP K (tCall (spD K (P1I 20) Ps) [] E0 tr) env c := ep_callD h ⟨a, i, rfl, hp⟩ hk
theorem k1 {a : PyData} {f : PyData → PyData} : ∀ d, (∃ a', [a] = [a'] ∧ d = f a') → d = f a := fun d ⟨a', e, h⟩ => by
  cases e
  exact h
theorem k1I {a : PyData} {i : Int} {f : PyData → Int → PyData} : ∀ d, (∃ a' i', [a, PyData.int i] = [a', .int i'] ∧ d = f a' i') → d = f a i := fun d ⟨a', i', e, h⟩ => by
  cases e
  exact h
theorem two_of {ds : List PyData} (h : ((ds.length : Int) = 2)) : ∃ a b, ds = [a, b] := by
  match ds, h with
  | [a, b], _ => exact ⟨a, b, rfl⟩
  | [], h => simp at h
  | [_], h => simp at h
  | _ :: _ :: _ :: _, h => simp at h; omega
theorem four_of {ds : List PyData} (h : ((ds.length : Int) = 4)) : ∃ a b c e, ds = [a, b, c, e] := by
  match ds, h with
  | [a, b, c, e], _ => exact ⟨a, b, c, e, rfl⟩
  | [], h => simp at h
  | [_], h => simp at h
  | [_, _], h => simp at h
  | [_, _, _], h => simp at h
  | _ :: _ :: _ :: _ :: _ :: _, h => simp at h; omega
theorem isTupleOf_tup {a : PyData} {n : Int} (h : isTupleOf a n = true) : ∃ ds, a = .tuple ds ∧ (ds.length : Int) = n := by
  cases a with
  | tuple ds => exact ⟨ds, rfl, of_decide_eq_true h⟩
  | _ => cases h
/-! ### is_counted -/
theorem scCounted : FnScope ["thing", "least"] ["thing", "least"] (defScope sCounted) := ⟨rfl, rfl, rfl, by decide +kernel, rfl, by decide +kernel, by decide +kernel⟩
theorem ok_counted (D : DefAt K mg "is_counted" sCounted ["thing", "least"]) (C : Nc K mg) (cT : Cal P w K mg base 1 "is_tuple_of" (spTupOf K)) (cN : Cal P w K mg base 1 "is_name" (spName K)) (cW : Cal P w K mg base 1 "is_whole" (spWhole K)) : Cal P w K mg base 2 "is_counted" (spCounted K) := by
  refine D.calD scCounted (fun ds ⟨a, i, e, _⟩ => by rw [e]; rfl) fun f cdv A outer s H E hr => ⟨_, pss_one (ps_ret (pe_and (pe_d cT hr (by decide) (by rfl) (pa_cons (pv 0) (pa_cons pe_int pa_nil)))
    (pe_and (pe_d cN hr (by decide) (by rfl) (pa_cons (pe_ix ix_tup (pv 0) pe_int (fun _ _ => rfl)) pa_nil))
    (pe_and (pe_d cW hr (by decide) (by rfl) (pa_cons (pe_ix ix_tup (pv 0) pe_int (fun _ _ => rfl)) pa_nil))
    (pe_one (pe_chain op_le op_le (pv 1) (pe_ix ix_tup (pv 0) pe_int (fun _ _ => rfl)) (gk C.gr))))))), ?_⟩
  rintro ds ⟨a, i, rfl, ha⟩
  cases ht : isTupleOf a 2 with
  | true =>
    obtain ⟨ds, rfl, hl⟩ := isTupleOf_tup ht
    obtain ⟨x, y, rfl⟩ := two_of hl
    have gx : gd 20 x = true := gd_in ha (by simp)
    have gy : gd 20 y = true := gd_in ha (by simp)
    have x0 : atI [x, y] 0 = some x := atI_nat (j := 0) rfl
    have x1 : atI [x, y] 1 = some y := atI_nat (j := 1) rfl
    cases hy : isWhole y with
    | true =>
      obtain ⟨n, rfl⟩ : ∃ n, y = .int n := by cases y <;> first | exact ⟨_, rfl⟩ | cases hy
      refine run_retP (ep_andV (call1I (ea_cons (ep_var rfl) (ea_cons ep_int ea_nil)) ha k1I) fun _ => ep_andV (call1 (ea_cons (ep_op (ep_var rfl) ep_int (rd_ixT x0)) ea_nil) gx k1) fun _ => ep_andV (call1 (ea_cons (ep_op (ep_var rfl) ep_int (rd_ixT x1)) ea_nil) gy k1) fun _ =>
        ep_chain (ep_var rfl) (ep_op (ep_var rfl) ep_int (rd_ixT x1)) rd_IB fun _ => ⟨ep_c fun _ => .int 999999999, rd_IB⟩) ⟨_, _, rfl, ?_⟩
      rw [ht, hy]
      rfl
    | false =>
      refine run_retP (ep_andV (call1I (ea_cons (ep_var rfl) (ea_cons ep_int ea_nil)) ha k1I) fun _ => ep_andV (call1 (ea_cons (ep_op (ep_var rfl) ep_int (rd_ixT x0)) ea_nil) gx k1) fun _ => ep_and0 (ep_is (call1 (ea_cons (ep_op (ep_var rfl) ep_int (rd_ixT x1)) ea_nil) gy k1) (by rw [hy]))) ⟨_, _, rfl, ?_⟩
      have hc : countOk y i = false := by cases y <;> first | rfl | cases hy
      show PyData.bool (isTupleOf (.tuple [x, y]) 2 && (isName x && false)) = .bool (isName x && countOk y i)
      rw [hc, Bool.and_false, Bool.and_false]
  | false =>
    refine run_retP (ep_and0 (ep_is (call1I (ea_cons (ep_var rfl) (ea_cons ep_int ea_nil)) ha k1I) (by rw [ht]))) ⟨_, _, rfl, ?_⟩
    have hc : isCounted a i = false := by
      unfold isCounted
      split
      · cases ht
      · rfl
    rw [hc]
/-! ### is_parts -/
theorem scParts : FnScope ["thing", "part"] ["thing"] (defScope sParts) := ⟨rfl, rfl, rfl, by decide +kernel, rfl, by decide +kernel, by decide +kernel⟩
theorem ok_parts (D : DefAt K mg "is_parts" sParts ["thing"]) (B : Bi mg) (cC : Cal P w K mg base 2 "is_counted" (spCounted K)) : Cal P w K mg base 3 "is_parts" (spParts K) := by
  refine D.calD scParts (fun ds ⟨a, e, _⟩ => by rw [e]; rfl) fun f cdv A outer s H E hr => ⟨_, pss_one (ps_ret (pe_and (pe_callB call_isi (by rfl) B.isi PyProof.Rows.boot_isinstance (pa_cons (pv 0) (pa_cons (bt B.tup PyProof.Rows.boot_tuple) pa_nil)))
    (pe_one (pe_callB (cr_all rfl) (by rfl) B.all (by decide +kernel) (pa_cons (pe_lc (own := [("part", 1)]) (g := gName 1) (tt := tYes) rfl scParts.nd (pi_tup (pv 0)) (blkOk_by (own := [("part", 1)]) (N := ["thing", "part"]) (sc := defScope sParts) (by decide +kernel)) (fun _ _ _ _ _ => pg_name (i := 1) scParts.nd rfl (Or.inl rfl)) (fun _ _ _ _ _ => pts_nil)
        (fun _ _ _ _ _ => pe_d cC hr (by decide) (by rfl) (pa_cons (pv 1) (pa_cons pe_int pa_nil)))) pa_nil))))), ?_⟩
  rintro ds ⟨a, rfl, ha⟩
  cases ht : isTup a with
  | true =>
    obtain ⟨ds, rfl⟩ : ∃ ds, a = .tuple ds := by cases a <;> first | exact ⟨_, rfl⟩ | cases ht
    refine run_retP (ep_andV (isi_tup (ep_var rfl) (gd_nd ha)) fun _ => ep_cb (ea_cons (ep_is (ep_lcA (vs := [1]) (ew_tup (ep_var rfl)) rfl (Nat.le_trans (gd_len ha) (by decide)) (own_name (by simp)) (fun d => .bool (isCounted d 1)) fun d hd => tgt_name ⟨rfl, call1I (ea_cons (ep_var rfl) (ea_cons ep_int ea_nil)) (gd_in ha hd) k1I⟩)
      (show _ = PyData.list ((ds.map fun d => isCounted d 1).map PyData.bool) by rw [List.map_map]; rfl)) ea_nil) rc_all) ⟨_, rfl, ?_⟩
    rw [List.all_map]
    rfl
  | false =>
    refine run_retP (ep_and0 (ep_is (isi_tup (ep_var rfl) (gd_nd ha)) (by rw [ht]))) ⟨_, rfl, ?_⟩
    cases a <;> first | rfl | cases ht
/-! ### is_firing -/
abbrev nFiring : List Str := ["thing", "name", "label", "takes", "gives"]
theorem scFiring : FnScope nFiring ["thing"] (defScope sFiring) := ⟨rfl, rfl, rfl, by decide +kernel, rfl, by decide +kernel, by decide +kernel⟩
theorem ok_firing (D : DefAt K mg "is_firing" sFiring ["thing"]) (cT : Cal P w K mg base 1 "is_tuple_of" (spTupOf K)) (cN : Cal P w K mg base 1 "is_name" (spName K)) (cP : Cal P w K mg base 3 "is_parts" (spParts K)) : Cal P w K mg base 4 "is_firing" (spFiring K) := by
  refine D.calD scFiring (fun ds ⟨a, e, _⟩ => by rw [e]; rfl) fun f cdv A outer s H E hr => ⟨_, pss_cons (ps_if (pt_not (pt_val (pe_d cT hr (by decide) (by rfl) (pa_cons (pv 0) (pa_cons pe_int pa_nil))))) (pss_one (ps_ret pe_bl)) pss_nil)
    (pss_cons (ps_asg (pv 0) (pg_tup rfl (pgs_cons (pg_name (i := 1) scFiring.nd rfl (.inl rfl)) (pgs_cons (pg_name (i := 2) scFiring.nd rfl (.inl rfl)) (pgs_cons (pg_name (i := 3) scFiring.nd rfl (.inl rfl)) (pgs_cons (pg_name (i := 4) scFiring.nd rfl (.inl rfl)) pgs_nil))))))
    (pss_one (ps_ret (pe_and (pe_d cN hr (by decide) (by rfl) (pa_cons (pv 1) pa_nil))
      (pe_and (pe_or (pe_cmpR (op_eqD hr.units) (pv 2) pe_str (nomark _)) (pe_one (pe_d cN hr (by decide) (by rfl) (pa_cons (pv 2) pa_nil))))
      (pe_and (pe_d cP hr (by decide) (by rfl) (pa_cons (pv 3) pa_nil)) (pe_one (pe_d cP hr (by decide) (by rfl) (pa_cons (pv 4) pa_nil))))))))), ?_⟩
  rintro ds ⟨a, rfl, ha⟩
  cases ht : isTupleOf a 4 with
  | true =>
    obtain ⟨ds, rfl, hl⟩ := isTupleOf_tup ht
    obtain ⟨x, y, z, u, rfl⟩ := four_of hl
    have gx : gd 20 x = true := gd_in ha (by simp)
    have gy : gd 20 y = true := gd_in ha (by simp)
    have gz : gd 20 z = true := gd_in ha (by simp)
    have gu : gd 20 u = true := gd_in ha (by simp)
    refine run_seq (run_ifP (ept_not (ept_b (call1I (ea_cons (ep_var rfl) (ea_cons ep_int ea_nil)) ha k1I))) (fun h => by rw [ht] at h; cases h) fun _ => run_next ?_)
    refine run_seq (run_asg ((ep_var rfl).imp fun d e q => ?_))
    obtain ⟨rfl, rfl⟩ := q
    refine tgt_tup rfl (tgts_cons (tgt_name (tgts_cons (tgt_name (tgts_cons (tgt_name (tgts_cons (tgt_name (tgts_nil ?_)))))))))
    refine run_retP (ep_andV (call1 (ea_cons (ep_var rfl) ea_nil) gx k1) fun _ => ep_andV (ep_orV (ep_op (ep_var rfl) ep_str (rd_eqD (gd_shaped gy (by decide)) (by decide +kernel))) fun _ => call1 (ea_cons (ep_var rfl) ea_nil) gy k1) fun _ => ep_andV (call1 (ea_cons (ep_var rfl) ea_nil) gz k1) fun _ => call1 (ea_cons (ep_var rfl) ea_nil) gu k1) ⟨_, rfl, ?_⟩
    show PyData.bool (isName x && ((PyData.eqv y (.str "") || isName y) && (isParts z && isParts u))) = .bool (isName x && (PyData.eqv y (.str "") || isName y) && isParts z && isParts u)
    rw [Bool.and_assoc, Bool.and_assoc]
  | false =>
    refine run_seq (run_ifP (et_is (ept_not (ept_b (call1I (ea_cons (ep_var rfl) (ea_cons ep_int ea_nil)) ha k1I))) (show (!isTupleOf a 4) = true by rw [ht]; rfl)) (fun h => run_retP ep_bl ⟨_, rfl, ?_⟩) fun h => by cases h)
    have hc : isFiring a = false := by
      unfold isFiring
      split
      · cases ht
      · rfl
    rw [hc]
end
end Nt

set_option Elab.async false
set_option linter.all false
set_option autoImplicit false
set_option maxRecDepth 100000
set_option maxHeartbeats 4000000
namespace Nt
open PySem PySem.Spec PyProof.Rows L2 Lw
section
variable {P : Program} {w : World} {K : PySem.W.Frag} {mg : Str → Option Value} {base : Heap} {env : Lw.Env} {te : TE} {d : PyData}
/-! ### places_wrong -/
abbrev nPlaces : List Str := ["places", "ahead", "k", "place"]
theorem scPlaces : FnScope nPlaces ["places"] (defScope sPlaces) := ⟨rfl, rfl, rfl, by decide +kernel, rfl, by decide +kernel, by decide +kernel⟩
abbrev spPlaces (K : PySem.W.Frag) : Sp := spD K (fun ds => ∃ ps, ds = [.tuple ps] ∧ gd 20 (.tuple ps) = true) fun ds r => ∃ ps, ds = [.tuple ps] ∧ r = placesWrong 0 [] ps
theorem ok_places (D : DefAt K mg "places_wrong" sPlaces ["places"]) (B : Bi mg) (cC : Cal P w K mg base 2 "is_counted" (spCounted K)) : Cal P w K mg base 3 "places_wrong" (spPlaces K) := by
  refine D.calD scPlaces (fun ds ⟨a, e, _⟩ => by rw [e]; rfl) fun f cdv A outer s H E hr => ⟨_, pss_cons (ps_set (i := 1) scPlaces.nd rfl (.inl rfl) pe_dnewK)
    (pss_cons (ps_for PassesOwn.never rfl (pi_enumT (by rfl) B.enum (pa_cons (pv 0) pa_nil)) (pg_tup rfl (pgs_cons (pg_name (i := 2) scPlaces.nd rfl (.inl rfl)) (pgs_cons (pg_name (i := 3) scPlaces.nd rfl (.inl rfl)) pgs_nil)))
      (pss_cons (ps_if (pw_or (pt_not (pt_val (pe_d cC hr (by decide) (by rfl) (pa_cons (pv 3) (pa_cons pe_int pa_nil))))) (pw_or1 (pt_cmp (pc_din (hu_of hr) (pe_ix ix_tup (pv 3) pe_int (fun _ _ => rfl)) (pv 1)) (by with_unfolding_all rfl)))).pt (pss_one (ps_ret (pe_tup (pa_cons pe_str (pa_cons (pv 2) pa_nil))))) pss_nil)
      (pss_one (ps_dput (hu_of hr) (pv 1) (pe_ix ix_tup (pv 3) pe_int (fun _ _ => rfl)) pe_bl rfl))))
    (pss_one (ps_ret pe_non))), ?_⟩
  rintro ds ⟨ps, rfl, ha⟩
  obtain ⟨R, hRR⟩ : ∃ R, placesWrong 0 [] ps = R := ⟨_, rfl⟩
  refine run_seq (run_newK fun q => ?_)
  refine run_seq (run_for (ew_enumT (ea_cons (ep_var rfl) ea_nil)) (fun j e => ∃ kvs ah x2 x3, e = [some (.dat (.tuple ps)), some (.dic q kvs), x2, x3] ∧ placesWrong j ah (ps.drop j) = R ∧ (∀ z, (valV kvs (.inr z : Key)).isSome = ah.contains z) ∧ kvs.length ≤ j) ⟨[], [], none, none, rfl, hRR, fun z => rfl, Nat.le_refl _⟩ ?_ ?_)
  · rintro j d e hd ⟨kvs, ah, x2, x3, rfl, hR, hk, hl⟩
    obtain ⟨p, hp, rfl⟩ := pairsD_get hd
    have hj : j < ps.length := (List.getElem?_eq_some_iff.mp hp).1
    have gp : gd 20 p = true := gd_in ha (List.mem_of_getElem? hp)
    rw [List.drop_eq_getElem_cons hj, (List.getElem?_eq_some_iff.mp hp).2] at hR
    unfold placesWrong at hR
    refine tgt_tup rfl (tgts_cons (tgt_name (tgts_cons (tgt_name (tgts_nil ?_)))))
    cases hc : isCounted p 0 with
    | false =>
      rw [if_pos (by rw [hc]; rfl)] at hR
      refine run_seq (run_ifP (ept_or1 (et_is (ept_not (ept_b (call1I (ea_cons (ep_var rfl) (ea_cons ep_int ea_nil)) gp k1I))) (show (!isCounted p 0) = true by rw [hc]; rfl))) (fun _ => run_retP (ep_tup (ea_cons ep_str (ea_cons (ep_var rfl) ea_nil)) (by show 2 ≤ 100000; decide)) ⟨ps, rfl, ?_⟩) fun h => by cases h)
      rw [hRR, ← hR, show ((0 : Int) + (j : Int)) = (j : Int) from Int.zero_add _]
    | true =>
      obtain ⟨z, i, rfl, _, _, _⟩ := counted_form hc
      have x0 : atI [PyData.str z, .int i] 0 = some (.str z) := atI_nat (j := 0) rfl
      refine run_seq (run_ifP (ept_or (et_is (ept_not (ept_b (call1I (ea_cons (ep_var rfl) (ea_cons ep_int ea_nil)) gp k1I))) (show (!isCounted (.tuple [.str z, .int i]) 0) = false by rw [hc]; rfl)) fun _ => ept_b (ep_din (k := .inr z) (ep_op (ep_var rfl) ep_int (rd_ixT x0)) rfl rfl rfl)) (fun h => ?_) fun h => run_next ?_)
      · rw [Bool.false_or, hk z] at h
        rw [if_pos (by rw [hc]; exact h)] at hR
        refine run_retP (ep_tup (ea_cons ep_str (ea_cons (ep_var rfl) ea_nil)) (by show 2 ≤ 100000; decide)) ⟨ps, rfl, ?_⟩
        rw [hRR, ← hR, show ((0 : Int) + (j : Int)) = (j : Int) from Int.zero_add _]
      · rw [Bool.false_or, hk z] at h
        rw [if_neg (by rw [hc]; show ¬ (false || ah.contains z) = true; rw [Bool.false_or, h]; decide)] at hR
        refine run_dput (k := .inr z) (w := .bl true) rfl (fun σ H Q q => q) (ep_op (ep_var rfl) ep_int (rd_ixT x0)) rfl rfl (Nat.lt_of_le_of_lt hl (Nat.lt_of_lt_of_le hj (Nat.le_trans (gd_len ha) (by decide)))) ⟨putK kvs (.inr z) (.bl true), z :: ah, _, _, rfl, hR, fun y => ?_, ?_⟩
        · rw [valV_put, List.contains_cons]
          by_cases e : y = z
          · subst e
            simp
          · rw [if_neg fun q => e (Sum.inr.inj q), hk y, beq_eq_false_iff_ne.mpr e, Bool.false_or]
        · have := length_putK kvs (.inr z : Key) (V.bl true)
          omega
  · rintro e ⟨kvs, ah, x2, x3, rfl, hR, _, _⟩
    refine run_retP ep_non ⟨ps, rfl, ?_⟩
    rw [pairsD_len, List.drop_length] at hR
    exact hR.trans hRR.symm
/-! ### numbers_of -/
abbrev nNumbers : List Str := ["named", "k", "thing"]
theorem scNumbers : FnScope nNumbers ["named"] (defScope sNumbers) := ⟨rfl, rfl, rfl, by decide +kernel, rfl, by decide +kernel, by decide +kernel⟩
abbrev spNumbers (K : PySem.W.Frag) : Sp := spM K (fun ds => ∃ ps, ds = [.tuple ps] ∧ gd 20 (.tuple ps) = true ∧ ∀ p ∈ ps, isCounted p 0 = true) fun ds kvs => ∃ ps, ds = [.tuple ps] ∧ kvs = numKv ps
theorem own2 {vs : List Nat} {i j : Nat} (hi : i ∈ vs) (hj : j ∈ vs) {K : PySem.W.Frag} {n : Nat} : OwnG (gTup K n (gCons (gName i) (gCons (gName j) gNil))) vs := own_tup (owns_cons hi (owns_cons hj owns_nil))
theorem ok_numbers (D : DefAt K mg "numbers_of" sNumbers ["named"]) (B : Bi mg) : Cal P w K mg base 1 "numbers_of" (spNumbers K) := by
  refine D.cal scNumbers (fun vs H Q E h => ?_) fun f cdv A outer s H vs Q E hr h => ⟨_, pss_one (ps_ret (pe_dc (own := [("k", 1), ("thing", 2)]) (g := gTup K 2 (gCons (gName 1) (gCons (gName 2) gNil))) (tt := tYes) rfl scNumbers.nd (pi_enumT (by rfl) B.enum (pa_cons (pv 0) pa_nil)) (blkOk_by (own := [("k", 1), ("thing", 2)]) (N := nNumbers) (sc := defScope sNumbers) (by decide +kernel))
      (fun _ _ _ _ _ => pg_tup rfl (pgs_cons (pg_name (i := 1) scNumbers.nd rfl (Or.inl rfl)) (pgs_cons (pg_name (i := 2) scNumbers.nd rfl (Or.inl rfl)) pgs_nil))) (fun _ _ _ _ _ => pts_nil)
      (fun _ _ _ _ _ => pe_ix (ixT (K := K)) (pv 2) pe_int (fun _ _ => rfl)) (fun _ _ _ _ _ => pv 1))), ?_⟩
  · obtain ⟨I, ds, _, hv, ⟨ps, rfl, _⟩, _⟩ := h
    rw [dpA_len hv]
    rfl
  · obtain ⟨I, ds, hI, hv, ⟨ps, rfl, ha, hc⟩, k⟩ := h
    cases hv with
    | cons hv h0 =>
      cases h0
      rename_i v
      have E1 : EnvI K H I I (start nNumbers [v]) H [some (.dat (.tuple ps)), none, none] := by
        refine ⟨Ex.refl H, Ex.refl I, hI, fun _ _ h => h, rfl, fun i x e => ?_, fun i j x y _ hi _ cx _ => ?_⟩
        · match i, e with
          | 0, e =>
            have e' : x = .dat (.tuple ps) := by simpa using e.symm
            subst e'
            exact ⟨v, rfl, hv⟩
          | 1, e => simp at e
          | 2, e => simp at e
          | i + 3, e => simp at e
        · exfalso
          match i, hi with
          | 0, e =>
            have e' : x = .dat (.tuple ps) := by simpa using e.symm
            subst e'
            cases cx
          | 1, e => simp at e
          | 2, e => simp at e
          | i + 3, e => simp at e
      refine ev_dc (ew_enumT (ea_cons (ep_var rfl) ea_nil)) rfl (by rw [pairsD_len]; exact Nat.le_trans (gd_len ha) (by decide)) (own2 (by simp) (by simp)) keyD (fun d => .str (nameD (itemD d 1))) (fun d => itemD d 0) (fun d hd => ?_) H I I _ H E1 _ fun D I' H' hD hI' E' x' => ?_
      · obtain ⟨j, hj⟩ := List.getElem?_of_mem hd
        obtain ⟨p, hp, rfl⟩ := pairsD_get hj
        obtain ⟨z, i, rfl, _, _, _⟩ := counted_form (hc p (List.mem_of_getElem? hp))
        exact tgt_tup rfl (tgts_cons (tgt_name (tgts_cons (tgt_name (tgts_nil ⟨rfl, ep_op (ep_var rfl) ep_int (rd_ixT (show atI [PyData.str z, .int i] 0 = some (.str z) from atI_nat (j := 0) rfl)), ep_var rfl, rfl, rfl, rfl⟩)))))
      · refine k D H' I' _ hD hI' E'.oi E'.ih (fun a o h => E'.fh a o (by rw [upd_ne (ne_of_none h hD)]; exact h)) (fun a h1 h2 => ?_) (E'.fh D _ upd_same) ⟨ps, rfl, rfl⟩
        have z : a ≠ D := fun z => h1 (z ▸ hD)
        exact E'.fr a (by rw [upd_ne z]; exact h1) h2
/-! ### bad_part -/
abbrev nBad : List Str := ["numbers", "firing", "j", "parts", "last", "name", "_"]
theorem scBad : FnScope nBad ["numbers", "firing"] (defScope sBad) := ⟨rfl, rfl, rfl, by decide +kernel, rfl, by decide +kernel, by decide +kernel⟩
def numsOk (kvs : List (Key × V)) : Prop := ∀ z v, valV kvs (.inr z : Key) = some v → ∃ i, v = .int i
abbrev spBad (K : PySem.W.Frag) : Sp := spK K (fun kvs ds => ∃ f, ds = [f] ∧ numsOk kvs ∧ gd 20 f = true ∧ isFiring f = true) fun kvs ds r => ∃ f, ds = [f] ∧ r = badPart (numOf kvs) f
theorem ok_bad (D : DefAt K mg "bad_part" sBad ["numbers", "firing"]) : Cal P w K mg base 1 "bad_part" (spBad K) := by
  refine D.calK scBad (fun kvs ds ⟨f, e, _⟩ => by rw [e]; rfl) fun f cdv A outer s H E hr => ⟨_, pss_cons (ps_set (i := 2) scBad.nd rfl (.inl rfl) pe_int)
    (pss_cons (ps_for PassesOwn.never rfl (pi_tup (pe_tup (pa_cons (pe_ix ix_tup (pv 1) pe_int (fun _ _ => rfl)) (pa_cons (pe_ix ix_tup (pv 1) pe_int (fun _ _ => rfl)) pa_nil)))) (pg_name (i := 3) scBad.nd rfl (.inl rfl))
      (pss_cons (ps_set (i := 4) scBad.nd rfl (.inl rfl) (pe_un un_neg pe_int))
      (pss_one (ps_for PassesOwn.never rfl (pi_tup (pv 3)) (pg_tup rfl (pgs_cons (pg_name (i := 5) scBad.nd rfl (.inl rfl)) (pgs_cons (pg_name (i := 6) scBad.nd rfl (.inl rfl)) pgs_nil)))
        (pss_cons (ps_if (pw_or (pt_cmp (pc_dnotin (hu_of hr) (pv 5) (pv 0)) (by with_unfolding_all rfl)) (pw_or1 (pt_cmpR op_le (pe_dget (hu_of hr) (pv 0) (pv 5) (fun _ _ => rfl)) (pv 4) (nomark _)))).pt (pss_one (ps_ret (pv 2))) pss_nil)
        (pss_cons (ps_set (i := 4) scBad.nd rfl (.inl rfl) (pe_dget (hu_of hr) (pv 0) (pv 5) (fun _ _ => rfl)))
        (pss_one (ps_aug (i := 2) scBad.nd rfl (.inl rfl) pe_int ip_add))))))))
    (pss_one (ps_ret pe_non))), ?_⟩
  rintro q kvs ds ⟨fi, rfl, hn, gf, hf⟩
  obtain ⟨z0, l, t, g, rfl, _, _, ht, hg⟩ := firing_form hf
  obtain ⟨ts, rfl, hts⟩ := parts_form ht
  obtain ⟨gs, rfl, hgs⟩ := parts_form hg
  obtain ⟨R, hRR⟩ : ∃ R, badAll (numOf kvs) 0 [ts, gs] = R := ⟨_, rfl⟩
  have x2 : atI [PyData.str z0, l, .tuple ts, .tuple gs] 2 = some (.tuple ts) := atI_nat (j := 2) rfl
  have x3 : atI [PyData.str z0, l, .tuple ts, .tuple gs] 3 = some (.tuple gs) := atI_nat (j := 3) rfl
  refine run_seq (run_setP ep_int ?_)
  refine run_seq (run_for (ew_tup (ep_tup (ea_cons (ep_op (ep_var rfl) ep_int (rd_ixT x2)) (ea_cons (ep_op (ep_var rfl) ep_int (rd_ixT x3)) ea_nil)) (by show 2 ≤ 100000; decide)))
    (fun m e => ∃ (j : Int) (y3 y4 y5 y6 : Option Lw.Val), e = [some (.dic q kvs), some (.dat (.tuple [.str z0, l, .tuple ts, .tuple gs])), some (.dat (.int j)), y3, y4, y5, y6] ∧ badAll (numOf kvs) j ([ts, gs].drop m) = R) ⟨0, none, none, none, none, rfl, hRR⟩ ?_ ?_)
  · rintro m d e hd ⟨j, y3, y4, y5, y6, rfl, hR⟩
    -- one of the two
    obtain ⟨ps, rfl, hps, hR2⟩ : ∃ ps, d = .tuple ps ∧ (∀ x ∈ ps, isCounted x 1 = true) ∧ badAll (numOf kvs) j (ps :: [ts, gs].drop (m + 1)) = R := by
      match m, hd with
      | 0, hd =>
        have e : d = .tuple ts := by simpa using hd.symm
        exact ⟨ts, e, hts, hR⟩
      | 1, hd =>
        have e : d = .tuple gs := by simpa using hd.symm
        exact ⟨gs, e, hgs, hR⟩
      | m + 2, hd => simp at hd
    refine tgt_name ?_
    refine run_seq (run_setP (ep_un ep_int (show RU K _ (.int 1) (.int (-1)) from fun I H x _ hx Q q _ => by
      cases dp_int hx
      exact ⟨1, rfl, q _ (.int _)⟩)) ?_)
    refine run_for (ew_tup (ep_var rfl)) (fun i e => ∃ (j' la : Int) (y5 y6 : Option Lw.Val), e = [some (.dic q kvs), some (.dat (.tuple [.str z0, l, .tuple ts, .tuple gs])), some (.dat (.int j')), some (.dat (.tuple ps)), some (.dat (.int la)), y5, y6] ∧ badIn (numOf kvs) j' la (ps.drop i) = badIn (numOf kvs) j (-1) ps) ⟨j, -1, _, _, rfl, rfl⟩ ?_ ?_
    · rintro i d e hd ⟨j', la, y5, y6, rfl, hB⟩
      have hi : i < ps.length := (List.getElem?_eq_some_iff.mp hd).1
      obtain ⟨z, n, rfl, _, _, _⟩ := counted_form (hps d (List.mem_of_getElem? hd))
      rw [List.drop_eq_getElem_cons hi, (List.getElem?_eq_some_iff.mp hd).2] at hB
      have hB2 : (match numOf kvs z with | none => Sum.inl j' | some n => if n ≤ la then .inl j' else badIn (numOf kvs) (j' + 1) n (ps.drop (i + 1))) = badIn (numOf kvs) j (-1) ps := hB
      refine tgt_tup rfl (tgts_cons (tgt_name (tgts_cons (tgt_name (tgts_nil ?_)))))
      have fin : Sum.inl j' = badIn (numOf kvs) j (-1) ps → PyData.int j' = badPart (numOf kvs) (.tuple [.str z0, l, .tuple ts, .tuple gs]) := fun h => by
        have h1 : badAll (numOf kvs) j (ps :: [ts, gs].drop (m + 1)) = .int j' := by
          show (match badIn (numOf kvs) j (-1) ps with | .inl j => PyData.int j | .inr j => badAll (numOf kvs) j ([ts, gs].drop (m + 1))) = _
          rw [← h]
        exact (h1.symm.trans hR2).trans hRR.symm
      cases hv : valV kvs (.inr z : Key) with
      | none =>
        have hno : numOf kvs z = none := by unfold numOf; rw [hv]
        rw [hno] at hB2
        refine run_seq (run_ifP (ept_or1 (et_is (ept_b (ep_dnin (k := .inr z) (ep_var rfl) rfl rfl rfl)) (by rw [hv]; rfl))) (fun _ => run_retP (ep_var rfl) ⟨rfl, _, rfl, fin hB2⟩) fun h => by cases h)
      | some v =>
        obtain ⟨n', rfl⟩ := hn z v hv
        have hno : numOf kvs z = some n' := by unfold numOf; rw [hv]
        rw [hno] at hB2
        have hB3 : (if n' ≤ la then Sum.inl j' else badIn (numOf kvs) (j' + 1) n' (ps.drop (i + 1))) = badIn (numOf kvs) j (-1) ps := hB2
        refine run_seq (run_ifP (ept_or (et_is (ept_b (ep_dnin (k := .inr z) (ep_var rfl) rfl rfl rfl)) (show (!(valV kvs (.inr z : Key)).isSome) = false by rw [hv]; rfl)) fun _ => ept_test (ep_op (ep_dget (k := .inr z) (c := .int n') rfl (ep_var rfl) rfl rfl hv fun _ => .int n') (ep_var rfl) rd_IB)) (fun h => ?_) fun h => run_next ?_)
        · rw [Bool.false_or, decide_eq_true_eq] at h
          rw [if_pos h] at hB3
          exact run_retP (ep_var rfl) ⟨rfl, _, rfl, fin hB3⟩
        · rw [Bool.false_or, decide_eq_false_iff_not] at h
          rw [if_neg h] at hB3
          refine run_seq (run_setP (ep_dget (k := .inr z) (c := .int n') rfl (ep_var rfl) rfl rfl hv fun _ => .int n') ?_)
          exact run_aug rfl (ep_int.imp fun d e w => by
            obtain ⟨rfl, rfl⟩ := w
            exact ⟨1, rfl, _, _, _, _, rfl, hB3⟩)
    · rintro e ⟨j', la, y5, y6, rfl, hB⟩
      rw [List.drop_length] at hB
      refine ⟨j', _, _, _, _, rfl, ?_⟩
      have h1 : badAll (numOf kvs) j (ps :: [ts, gs].drop (m + 1)) = badAll (numOf kvs) j' ([ts, gs].drop (m + 1)) := by
        show (match badIn (numOf kvs) j (-1) ps with | .inl j => PyData.int j | .inr j => badAll (numOf kvs) j ([ts, gs].drop (m + 1))) = _
        rw [← hB]
        rfl
      exact h1.symm.trans hR2
  · rintro e ⟨j, y3, y4, y5, y6, rfl, hR⟩
    exact run_retP ep_non ⟨rfl, _, rfl, hR.trans hRR.symm⟩
/-! ### firings_wrong -/
abbrev nFirings : List Str := ["places", "firings", "numbers", "ahead", "k", "firing", "j"]
theorem scFirings : FnScope nFirings ["places", "firings"] (defScope sFirings) := ⟨rfl, rfl, rfl, by decide +kernel, rfl, by decide +kernel, by decide +kernel⟩
abbrev spFirings (K : PySem.W.Frag) : Sp := spD K (fun ds => ∃ ps fs, ds = [.tuple ps, .tuple fs] ∧ gd 20 (.tuple ps) = true ∧ gd 20 (.tuple fs) = true ∧ ∀ p ∈ ps, isCounted p 0 = true) fun ds r => ∃ ps fs, ds = [.tuple ps, .tuple fs] ∧ r = firingsWrong (numOf (numKv ps)) 0 [] fs
theorem ok_firings (D : DefAt K mg "firings_wrong" sFirings ["places", "firings"]) (B : Bi mg) (cN : Cal P w K mg base 1 "numbers_of" (spNumbers K)) (cF : Cal P w K mg base 4 "is_firing" (spFiring K)) (cB : Cal P w K mg base 1 "bad_part" (spBad K)) : Cal P w K mg base 5 "firings_wrong" (spFirings K) := by
  refine D.calD scFirings (fun ds ⟨a, b, e, _⟩ => by rw [e]; rfl) fun f cdv A outer s H E hr => ⟨_, pss_cons (ps_set (i := 2) scFirings.nd rfl (.inl rfl) (pe_d cN hr (by decide) (by rfl) (pa_cons (pv 0) pa_nil)))
    (pss_cons (ps_set (i := 3) scFirings.nd rfl (.inl rfl) pe_dnewK)
    (pss_cons (ps_for PassesOwn.never rfl (pi_enumT (by rfl) B.enum (pa_cons (pv 1) pa_nil)) (pg_tup rfl (pgs_cons (pg_name (i := 4) scFirings.nd rfl (.inl rfl)) (pgs_cons (pg_name (i := 5) scFirings.nd rfl (.inl rfl)) pgs_nil)))
      (pss_cons (ps_if (pw_or (pt_not (pt_val (pe_d cF hr (by decide) (by rfl) (pa_cons (pv 5) pa_nil)))) (pw_or1 (pt_cmp (pc_din (hu_of hr) (pe_ix ix_tup (pv 5) pe_int (fun _ _ => rfl)) (pv 3)) (by with_unfolding_all rfl)))).pt (pss_one (ps_ret (pe_tup (pa_cons pe_str (pa_cons (pv 4) pa_nil))))) pss_nil)
      (pss_cons (ps_dput (hu_of hr) (pv 3) (pe_ix ix_tup (pv 5) pe_int (fun _ _ => rfl)) pe_bl rfl)
      (pss_cons (ps_set (i := 6) scFirings.nd rfl (.inl rfl) (pe_d cB hr (by decide) (by rfl) (pa_cons (pv 2) (pa_cons (pv 5) pa_nil))))
      (pss_one (ps_if (pt_cmpR op_notN (pv 6) pe_non (nomark _)) (pss_one (ps_ret (pe_tup (pa_cons pe_str (pa_cons (pv 4) (pa_cons (pv 6) pa_nil)))))) pss_nil))))))
    (pss_one (ps_ret pe_non)))), ?_⟩
  rintro ds ⟨ps, fs, rfl, gp, gf, hc⟩
  obtain ⟨R, hRR⟩ : ∃ R, firingsWrong (numOf (numKv ps)) 0 [] fs = R := ⟨_, rfl⟩
  refine run_seq (run_setM (ea_cons (ep_var rfl) ea_nil) ⟨ps, rfl, gp, hc⟩ fun q kvs ⟨ps', e, hkv⟩ => ?_)
  cases e
  subst hkv
  refine run_seq (run_newK fun q2 => ?_)
  refine run_seq (run_for (ew_enumT (ea_cons (ep_var rfl) ea_nil)) (fun j e => ∃ kvs ah x4 x5 x6, e = [some (.dat (.tuple ps)), some (.dat (.tuple fs)), some (.dic q (numKv ps)), some (.dic q2 kvs), x4, x5, x6] ∧ firingsWrong (numOf (numKv ps)) j ah (fs.drop j) = R ∧ (∀ z, (valV kvs (.inr z : Key)).isSome = ah.contains z) ∧ kvs.length ≤ j) ⟨[], [], none, none, none, rfl, hRR, fun z => rfl, Nat.le_refl _⟩ ?_ ?_)
  · rintro j d e hd ⟨kvs, ah, x4, x5, x6, rfl, hR, hk, hl⟩
    obtain ⟨p, hp, rfl⟩ := pairsD_get hd
    have hj : j < fs.length := (List.getElem?_eq_some_iff.mp hp).1
    have g1 : gd 20 p = true := gd_in gf (List.mem_of_getElem? hp)
    have ej : ((0 : Int) + (j : Int)) = (j : Int) := Int.zero_add _
    rw [List.drop_eq_getElem_cons hj, (List.getElem?_eq_some_iff.mp hp).2] at hR
    unfold firingsWrong at hR
    refine tgt_tup rfl (tgts_cons (tgt_name (tgts_cons (tgt_name (tgts_nil ?_)))))
    cases hf : isFiring p with
    | false =>
      rw [if_pos (by rw [hf]; rfl)] at hR
      refine run_seq (run_ifP (ept_or1 (et_is (ept_not (ept_b (call1 (ea_cons (ep_var rfl) ea_nil) g1 k1))) (show (!isFiring p) = true by rw [hf]; rfl))) (fun _ => run_retP (ep_tup (ea_cons ep_str (ea_cons (ep_var rfl) ea_nil)) (by show 2 ≤ 100000; decide)) ⟨ps, fs, rfl, ?_⟩) fun h => by cases h)
      rw [hRR, ← hR, ej]
    | true =>
      obtain ⟨z, l, t, g, rfl, _, _, _, _⟩ := firing_form hf
      have x0 : atI [PyData.str z, l, t, g] 0 = some (.str z) := atI_nat (j := 0) rfl
      refine run_seq (run_ifP (ept_or (et_is (ept_not (ept_b (call1 (ea_cons (ep_var rfl) ea_nil) g1 k1))) (show (!isFiring (.tuple [.str z, l, t, g])) = false by rw [hf]; rfl)) fun _ => ept_b (ep_din (k := .inr z) (ep_op (ep_var rfl) ep_int (rd_ixT x0)) rfl rfl rfl)) (fun h => ?_) fun h => run_next ?_)
      · rw [Bool.false_or, hk z] at h
        rw [if_pos (by rw [hf]; exact h)] at hR
        refine run_retP (ep_tup (ea_cons ep_str (ea_cons (ep_var rfl) ea_nil)) (by show 2 ≤ 100000; decide)) ⟨ps, fs, rfl, ?_⟩
        rw [hRR, ← hR, ej]
      · rw [Bool.false_or, hk z] at h
        rw [if_neg (by rw [hf]; show ¬ (false || ah.contains z) = true; rw [Bool.false_or, h]; decide)] at hR
        refine run_seq (run_dput (k := .inr z) (w := .bl true) rfl (fun σ H Q q => q) (ep_op (ep_var rfl) ep_int (rd_ixT x0)) rfl rfl (Nat.lt_of_le_of_lt hl (Nat.lt_of_lt_of_le hj (Nat.le_trans (gd_len gf) (by decide)))) ?_)
        refine run_seq (run_setP (ep_callK (c := badPart (numOf (numKv ps)) (.tuple [.str z, l, t, g])) rfl (ea_cons (ep_var rfl) ea_nil) ⟨_, rfl, numKv_ok ps, g1, hf⟩ fun d ⟨f', e, h⟩ => by
          cases e
          exact h) ?_)
        refine run_ifP (ept_test (ep_op (ep_var rfl) ep_non rd_notN)) (fun h => ?_) fun h => run_next ?_
        · have hb : isNoneD (badPart (numOf (numKv ps)) (.tuple [.str z, l, t, g])) = false := by simpa using h
          rw [if_neg (by rw [hb]; decide)] at hR
          refine run_retP (ep_tup (ea_cons ep_str (ea_cons (ep_var rfl) (ea_cons (ep_var rfl) ea_nil))) (by show 3 ≤ 100000; decide)) ⟨ps, fs, rfl, ?_⟩
          rw [hRR, ← hR, ej]
        · have hb : isNoneD (badPart (numOf (numKv ps)) (.tuple [.str z, l, t, g])) = true := by simpa using h
          rw [if_pos hb] at hR
          refine ⟨putK kvs (.inr z) (.bl true), z :: ah, _, _, _, rfl, hR, fun y => ?_, ?_⟩
          · rw [valV_put, List.contains_cons]
            by_cases e : y = z
            · subst e
              simp
            · rw [if_neg fun q => e (Sum.inr.inj q), hk y, beq_eq_false_iff_ne.mpr e, Bool.false_or]
          · have := length_putK kvs (.inr z : Key) (V.bl true)
            omega
  · rintro e ⟨kvs, ah, x4, x5, x6, rfl, hR, _, _⟩
    refine run_retP ep_non ⟨ps, fs, rfl, ?_⟩
    rw [pairsD_len, List.drop_length] at hR
    exact hR.trans hRR.symm
/-! ### net_wrong -/
abbrev nNet : List Str := ["thing", "places", "firings", "wrong"]
theorem scNet : FnScope nNet ["thing"] (defScope sNet) := ⟨rfl, rfl, rfl, by decide +kernel, rfl, by decide +kernel, by decide +kernel⟩
abbrev spNet (K : PySem.W.Frag) : Sp := spD K (P1 20) fun ds r => ∃ a, ds = [a] ∧ r = netWrong a
theorem ok_net (D : DefAt K mg "net_wrong" sNet ["thing"]) (B : Bi mg) (C : Nc K mg) (cT : Cal P w K mg base 1 "is_tuple_of" (spTupOf K)) (cP : Cal P w K mg base 3 "places_wrong" (spPlaces K)) (cF : Cal P w K mg base 5 "firings_wrong" (spFirings K)) : CalF P w K mg base 6 "net_wrong" sNet ["thing"] (spNet K) := by
  refine D.calDF scNet (fun ds ⟨a, e, _⟩ => by rw [e]; rfl) fun f cdv A outer s H E hr => ⟨_, pss_cons (ps_if (pw_or (pt_not (pt_val (pe_d cT hr (by decide) (by rfl) (pa_cons (pv 0) (pa_cons pe_int pa_nil)))))
      (pw_or (pt_not (pt_val (pe_callB call_isi (by rfl) B.isi PyProof.Rows.boot_isinstance (pa_cons (pe_ix ix_tup (pv 0) pe_int (fun _ _ => rfl)) (pa_cons (bt B.tup PyProof.Rows.boot_tuple) pa_nil)))))
      (pw_or1 (pt_not (pt_val (pe_callB call_isi (by rfl) B.isi PyProof.Rows.boot_isinstance (pa_cons (pe_ix ix_tup (pv 0) pe_int (fun _ _ => rfl)) (pa_cons (bt B.tup PyProof.Rows.boot_tuple) pa_nil)))))))).pt (pss_one (ps_ret (pe_tup (pa_cons pe_str pa_nil)))) pss_nil)
    (pss_cons (ps_asg (pv 0) (pg_tup rfl (pgs_cons (pg_name (i := 1) scNet.nd rfl (.inl rfl)) (pgs_cons (pg_name (i := 2) scNet.nd rfl (.inl rfl)) pgs_nil))))
    (pss_cons (ps_if (pt_cmpR op_eq (pe_callB call_len (by rfl) B.len PySem.boot_len (pa_cons (pv 1) pa_nil)) pe_int (nomark _)) (pss_one (ps_ret (pe_tup (pa_cons pe_str pa_nil)))) pss_nil)
    (pss_cons (ps_set (i := 3) scNet.nd rfl (.inl rfl) (pe_d cP hr (by decide) (by rfl) (pa_cons (pv 1) pa_nil)))
    (pss_cons (ps_if (pt_cmpR op_isN (pv 3) pe_non (nomark _)) (pss_one (ps_set (i := 3) scNet.nd rfl (.inl rfl) (pe_d cF hr (by decide) (by rfl) (pa_cons (pv 1) (pa_cons (pv 2) pa_nil))))) pss_nil)
    (pss_cons (ps_if (pw_and (pt_cmpR op_isN (pv 3) pe_non (nomark _)) (pw_and1 (pw_or (pt_cmpR op_gt (pe_callB call_len (by rfl) B.len PySem.boot_len (pa_cons (pv 1) pa_nil)) (gk C.mp) (nomark _)) (pw_or1 (pt_cmpR op_gt (pe_callB call_len (by rfl) B.len PySem.boot_len (pa_cons (pv 2) pa_nil)) (gk C.mf) (nomark _)))).pt)).pt
      (pss_one (ps_set (i := 3) scNet.nd rfl (.inl rfl) (pe_tup (pa_cons pe_str pa_nil)))) pss_nil)
    (pss_one (ps_ret (pv 3)))))))), ?_⟩
  rintro ds ⟨a, rfl, ha⟩
  have one : ∀ {z : Str} {e : Lw.Env}, EvP K (tTup (tCons (tC (.str z)) tNil)) e (oneD z) := fun {z e} => ep_tup (ea_cons ep_str ea_nil) (by show 1 ≤ 100000; decide)
  cases ht : isTupleOf a 2 with
  | false =>
    refine run_seq (run_ifP (ept_or1 (et_is (ept_not (ept_b (call1I (ea_cons (ep_var rfl) (ea_cons ep_int ea_nil)) ha k1I))) (show (!isTupleOf a 2) = true by rw [ht]; rfl))) (fun _ => run_retP one ⟨a, rfl, ?_⟩) fun h => by cases h)
    unfold netWrong
    split
    · cases ht
    · rfl
  | true =>
    obtain ⟨ds, rfl, hl⟩ := isTupleOf_tup ht
    obtain ⟨x, y, rfl⟩ := two_of hl
    have gx : gd 20 x = true := gd_in ha (by simp)
    have gy : gd 20 y = true := gd_in ha (by simp)
    have x0 : atI [x, y] 0 = some x := atI_nat (j := 0) rfl
    have x1 : atI [x, y] 1 = some y := atI_nat (j := 1) rfl
    refine run_seq (run_ifP (ept_or (et_is (ept_not (ept_b (call1I (ea_cons (ep_var rfl) (ea_cons ep_int ea_nil)) ha k1I))) (show (!isTupleOf (.tuple [x, y]) 2) = false by rw [ht]; rfl)) fun _ =>
      ept_or (ept_not (ept_b (isi_tup (ep_op (ep_var rfl) ep_int (rd_ixT x0)) (gd_nd gx)))) fun _ => ept_not (ept_b (isi_tup (ep_op (ep_var rfl) ep_int (rd_ixT x1)) (gd_nd gy)))) (fun h => run_retP one ⟨_, rfl, ?_⟩) fun h => run_next ?_)
    · rw [Bool.false_or, Bool.or_eq_true] at h
      unfold netWrong
      split
      · rename_i e
        cases e
        rcases h with h | h <;> cases h
      · rfl
    · rw [Bool.false_or, Bool.or_eq_false_iff] at h
      obtain ⟨ps, rfl⟩ : ∃ ps, x = .tuple ps := by cases x <;> first | exact ⟨_, rfl⟩ | exact Bool.noConfusion (show true = false from h.1)
      obtain ⟨fs, rfl⟩ : ∃ ps, y = .tuple ps := by cases y <;> first | exact ⟨_, rfl⟩ | exact Bool.noConfusion (show true = false from h.2)
      refine run_seq (run_asg ((ep_var rfl).imp fun d e q => ?_))
      obtain ⟨rfl, rfl⟩ := q
      refine tgt_tup rfl (tgts_cons (tgt_name (tgts_cons (tgt_name (tgts_nil ?_)))))
      refine run_seq (run_ifP (ept_test (ep_op (ep_cb (ea_cons (ep_var rfl) ea_nil) (rc_len rfl)) ep_int rd_eqI)) (fun h => run_retP one ⟨_, rfl, ?_⟩) fun h => run_next ?_)
      · have h0 : ps.length = 0 := by
          have := of_decide_eq_true h
          omega
        have h1 : ps = [] := List.length_eq_zero_iff.mp h0
        subst h1
        rfl
      · have hne : ps.isEmpty = false := by
          cases ps with
          | nil => exact absurd h (by decide)
          | cons _ _ => rfl
        have hN : netWrong (.tuple [.tuple ps, .tuple fs]) = netWrong2 ps fs := by
          show (if ps.isEmpty = true then _ else _) = _
          rw [if_neg (by rw [hne]; decide)]
        refine run_seq (run_setP (ep_callD (c := placesWrong 0 [] ps) (ea_cons (ep_var rfl) ea_nil) ⟨ps, rfl, gx⟩ fun d ⟨ps', e, h⟩ => by
          cases e
          exact h) ?_)
        -- what is wrong behind the second test
        refine run_seqI (M := fun e => ∃ wr, e = [some (.dat (.tuple [.tuple ps, .tuple fs])), some (.dat (.tuple ps)), some (.dat (.tuple fs)), some (.dat wr)] ∧ wr = if isNoneD (placesWrong 0 [] ps) = true then firingsWrong (numOf (numKv ps)) 0 [] fs else placesWrong 0 [] ps)
          (run_ifP (ept_test (ep_op (ep_var rfl) ep_non rd_isN)) (fun h => run_setP (ep_callD (c := firingsWrong (numOf (numKv ps)) 0 [] fs) (ea_cons (ep_var rfl) (ea_cons (ep_var rfl) ea_nil)) ⟨ps, fs, rfl, gx, gy, placesWrong_none ps 0 [] h⟩ fun d ⟨ps', fs', e, h⟩ => by
            cases e
            exact h) ⟨_, rfl, by rw [if_pos h]⟩) fun h => run_next ⟨_, rfl, by rw [if_neg (by rw [h]; decide)]⟩) ?_
        rintro e ⟨wr, rfl, hwr⟩
        have hN2 : netWrong2 ps fs = if (isNoneD wr && (decide (40 < (ps.length : Int)) || decide (60 < (fs.length : Int)))) = true then oneD "great" else wr := by
          rw [hwr]
          rfl
        refine run_seqI (M := fun e => e[3]? = some (some (.dat (netWrong2 ps fs))))
          (run_ifP (ept_and (ept_test (ep_op (ep_var rfl) ep_non rd_isN)) fun _ => ept_or (ept_test (ep_op (ep_cb (ea_cons (ep_var rfl) ea_nil) (rc_len rfl)) (ep_c fun _ => .int 40) rd_IB)) fun _ => ept_test (ep_op (ep_cb (ea_cons (ep_var rfl) ea_nil) (rc_len rfl)) (ep_c fun _ => .int 60) rd_IB)) (fun h => run_setP one (by
            rw [hN2, if_pos h]
            rfl)) fun h => run_next (by
            rw [hN2, if_neg (by rw [h]; decide)]
            rfl)) ?_
        intro e he
        exact run_retP (ep_var he) ⟨_, rfl, hN.symm⟩
end
end Nt

set_option Elab.async false
set_option linter.all false
set_option autoImplicit false
set_option maxRecDepth 100000
set_option maxHeartbeats 4000000
/-! The law's own draws: numbers from a purse. -/
namespace Nt
open PySem PySem.Spec PyProof.Rows L2 Lw
abbrev sMixed : Stmt := topS 20
abbrev sPurse : Stmt := topS 21
abbrev sTake : Stmt := topS 22
abbrev sAt : Stmt := topS 23
abbrev sPick : Stmt := topS 24
abbrev sNames : Stmt := topS 25
abbrev sSomeNames : Stmt := topS 26
abbrev sCount : Stmt := topS 27
abbrev sLParts : Stmt := topS 28
abbrev sLNet : Stmt := topS 29
section
variable {P : Program} {w : World} {K : PySem.W.Frag} {mg : Str → Option Value} {base : Heap} {env : Lw.Env} {te ta tb : TE} {d : PyData}
abbrev M18 : Int := 1000000000000000009
abbrev M60 : Int := 1000000000000000000000000000000000000000000000000000000000007
theorem pw18 : EvP K (tOp (rI CPow fun i j => .int (i ^ j.toNat)) (tC (.int 10)) (tC (.int 18))) env (.int 1000000000000000000) := ep_is (ep_op ep_int ep_int (rd_I ⟨by decide, by decide, by decide⟩)) (congrArg PyData.int (by decide +kernel))
theorem pw60 : EvP K (tOp (rI CPow fun i j => .int (i ^ j.toNat)) (tC (.int 10)) (tC (.int 60))) env (.int 1000000000000000000000000000000000000000000000000000000000000) := ep_is (ep_op ep_int ep_int (rd_I ⟨by decide, by decide, by decide⟩)) (congrArg PyData.int (by decide +kernel))
theorem ev_add {a b : Int} (ha : EvP K ta env (.int a)) (hb : EvP K tb env (.int b)) : EvP K (tOp (rI0 fun i j => .int (i + j)) ta tb) env (.int (a + b)) := ep_op ha hb rd_I0
theorem ev_sub {a b : Int} (ha : EvP K ta env (.int a)) (hb : EvP K tb env (.int b)) : EvP K (tOp (rI0 fun i j => .int (i - j)) ta tb) env (.int (a - b)) := ep_op ha hb rd_I0
theorem ev_mulW {a b : Int} (ha : EvP K ta env (.int a)) (hb : EvP K tb env (.int b)) (h : CMulW a b) : EvP K (tOp (rI CMulW fun i j => .int (i * j)) ta tb) env (.int (a * b)) := ep_op ha hb (rd_I h)
theorem ev_mod {a b : Int} (ha : EvP K ta env (.int a)) (hb : EvP K tb env (.int b)) (h : 0 < b) : EvP K (tOp (rI (fun _ j => 0 < j) fun i j => .int (i % j)) ta tb) env (.int (a % b)) := ep_op ha hb (rd_I h)
/-! ### _law_mixed -/
abbrev nMixed : List Str := ["_law_cell", "_law_k", "_law_number"]
theorem scMixed : FnScope nMixed ["_law_cell", "_law_k"] (defScope sMixed) := ⟨rfl, rfl, rfl, by decide +kernel, rfl, by decide +kernel, by decide +kernel⟩
abbrev spMixed (K : PySem.W.Frag) : Sp := spD K (fun ds => ∃ c k : Int, ds = [.int c, .int k] ∧ k.natAbs < 2 ^ 100) fun _ r => ∃ n : Int, r = .int n ∧ 0 ≤ n ∧ n < M60
theorem ok_mixed (D : DefAt K mg "_law_mixed" sMixed ["_law_cell", "_law_k"]) : Cal P w K mg base 1 "_law_mixed" (spMixed K) := by
  refine D.calD scMixed (fun ds ⟨a, b, e, _⟩ => by rw [e]; rfl) fun f cdv A outer s H E hr => ⟨_, pss_cons (ps_set (i := 2) scMixed.nd rfl (.inl rfl) (pe_op op_add (pe_op op_add (pe_op op_mulW (pe_op op_add (pe_op op_mod (pv 0) (pe_op op_add (pe_op op_pow pe_int pe_int) pe_int)) (pe_op op_mulW pe_int (pv 1))) pe_int) (pe_op op_mulW pe_int (pv 1))) pe_int))
    (pss_cons (ps_set (i := 2) scMixed.nd rfl (.inl rfl) (pe_op op_mod (pe_op op_mulW (pv 2) (pv 2)) (pe_op op_add (pe_op op_pow pe_int pe_int) pe_int)))
    (pss_one (ps_ret (pe_op op_mod (pe_op op_mulW (pe_op op_add (pv 2) pe_int) (pe_op op_add (pv 2) pe_int)) (pe_op op_add (pe_op op_pow pe_int pe_int) pe_int))))), ?_⟩
  rintro ds ⟨c, k, rfl, hk⟩
  have hm0 : 0 ≤ c % M18 := Int.emod_nonneg _ (by decide)
  have hm1 : c % M18 < M18 := Int.emod_lt_of_pos _ (by decide)
  obtain ⟨m, em⟩ : ∃ m, c % M18 = m := ⟨_, rfl⟩
  rw [em] at hm0 hm1
  have hm1 : m < 1000000000000000009 := hm1
  have h1 : (m + 7 * k).natAbs < 2 ^ 104 := by omega
  have hb : (739108512309184756019283746561 : Int).natAbs < 2 ^ 100 := by decide
  have hp := wide_lt h1 hb
  obtain ⟨p, ep⟩ : ∃ p, (m + 7 * k) * 739108512309184756019283746561 = p := ⟨_, rfl⟩
  rw [ep] at hp
  have h2 : (p + 7919 * k + 1).natAbs < 2 ^ 205 := by omega
  obtain ⟨n, en⟩ : ∃ n, p + 7919 * k + 1 = n := ⟨_, rfl⟩
  rw [en] at h2
  have r0 : 0 ≤ (n * n) % M60 := Int.emod_nonneg _ (by decide)
  have r1 : (n * n) % M60 < M60 := Int.emod_lt_of_pos _ (by decide)
  obtain ⟨r, er⟩ : ∃ r, (n * n) % M60 = r := ⟨_, rfl⟩
  rw [er] at r0 r1
  have r1 : r < 1000000000000000000000000000000000000000000000000000000000007 := r1
  refine run_seq (run_setP (d := .int n) (ep_is (ev_add (ev_add (ev_mulW (ev_add (ev_mod (ep_var rfl) (ev_add pw18 ep_int) (by decide)) (ev_mulW ep_int (ep_var rfl) (wide_mul (a := 3) (b := 100) (by decide) hk (by decide) (by decide) (by decide)))) ep_int (wide_mul (a := 104) (b := 100) (by rw [show c % (1000000000000000000 + 9) = m from em]; exact h1) hb (by decide) (by decide) (by decide))) (ev_mulW ep_int (ep_var rfl) (wide_mul (a := 13) (b := 100) (by decide) hk (by decide) (by decide) (by decide)))) ep_int) (by
    rw [show c % (1000000000000000000 + 9) = m from em, ep, en])) ?_)
  refine run_seq (run_setP (d := .int r) (ep_is (ev_mod (ev_mulW (ep_var rfl) (ep_var rfl) (wide_mul h2 h2 (by decide) (by decide) (by decide))) (ev_add pw60 ep_int) (by decide)) (by rw [← er]; rfl)) ?_)
  refine run_retP (ev_mod (ev_mulW (ev_add (ep_var rfl) ep_int) (ev_add (ep_var rfl) ep_int) (wide_mul (a := 201) (b := 201) (by omega) (by omega) (by decide) (by decide) (by decide))) (ev_add pw60 ep_int) (by decide)) ⟨_, rfl, Int.emod_nonneg _ (by decide), Int.emod_lt_of_pos _ (by decide)⟩
/-! ### _law_take -/
abbrev nTake : List Str := ["_law_purse_here", "_law_far", "_law_got"]
theorem scTake : FnScope nTake ["_law_purse_here", "_law_far"] (defScope sTake) := ⟨rfl, rfl, rfl, by decide +kernel, rfl, by decide +kernel, by decide +kernel⟩
abbrev spTake (K : PySem.W.Frag) : Sp := spU K 1 (fun ds => ∃ far : Int, ds = [.int far] ∧ 1 ≤ far ∧ far ≤ 1000) fun ds r => ∃ far g : Int, ds = [.int far] ∧ r = .int g ∧ 0 ≤ g ∧ g < far
theorem ok_take (D : DefAt K mg "_law_take" sTake ["_law_purse_here", "_law_far"]) (cM : Cal P w K mg base 1 "_law_mixed" (spMixed K)) : Cal P w K mg base 2 "_law_take" (spTake K) := by
  refine D.calU scTake (fun ds ⟨a, e, _⟩ => by rw [e]; rfl) fun f cdv A outer s H E hr => ⟨_, pss_cons (ps_if (pt_cmpR op_lt (pe_ix ix_list (pv 0) pe_int (fun _ _ => rfl)) (pv 1) (nomark _))
      (pss_cons (ps_asg (pe_op op_add (pe_ix ix_list (pv 0) pe_int (fun _ _ => rfl)) pe_int) (pg_sub (pv 0) pe_int set_list))
      (pss_one (ps_asg (pe_op op_add (pe_ix ix_list (pv 0) pe_int (fun _ _ => rfl)) (pe_op op_mulW (pv 1) (pe_d cM hr (by decide) (by rfl) (pa_cons (pe_ix ix_list (pv 0) pe_int (fun _ _ => rfl)) (pa_cons (pe_op op_add (pe_op op_mulW pe_int (pe_ix ix_list (pv 0) pe_int (fun _ _ => rfl))) pe_int) pa_nil))))) (pg_sub (pv 0) pe_int set_list)))) pss_nil)
    (pss_cons (ps_set (i := 2) scTake.nd rfl (.inl rfl) (pe_op op_mod (pe_ix ix_list (pv 0) pe_int (fun _ _ => rfl)) (pv 1)))
    (pss_cons (ps_asg (pe_op op_fdivW (pe_ix ix_list (pv 0) pe_int (fun _ _ => rfl)) (pv 1)) (pg_sub (pv 0) pe_int set_list))
    (pss_one (ps_ret (pv 2))))), ?_⟩
  rintro p n ds ⟨far, rfl, hf0, hf1⟩
  refine run_openP (i := 0) (p := p) (n := n + 1) rfl fun a b c ⟨a', b', c', e, ha0, ha1, hb0, hb1, hc0, hc1⟩ => ?_
  injection e with e1 e; injection e1 with e1
  injection e with e2 e; injection e2 with e2
  injection e with e3 e; injection e3 with e3
  subst e1 e2 e3
  have cm : ∀ {x y : Int}, x.natAbs < 2 ^ 300 → y.natAbs < 2 ^ 300 → CMulW x y := fun hx hy => wide_mul hx hy (by decide) (by decide) (by decide)
  -- behind the first statement
  refine run_seqI (M := fun e => ∃ a b : Int, e = [some (.lst p [.int a, .int b, .int c]), some (.dat (.int far)), none] ∧ 0 ≤ a ∧ a < 2 ^ 2100 ∧ 0 ≤ b ∧ b + n ≤ 2 ^ 60) (run_ifP (ept_test (ep_op (ep_ixOwn rfl ep_int (atI_nat (j := 0) rfl)) (ep_var rfl) rd_IB)) (fun h => ?_) fun h => run_next ⟨a, b, rfl, ha0, ha1, hb0, by omega⟩) ?_
  · have hlt : a < far := of_decide_eq_true h
    refine run_seq (run_setIP (j := 1) (ev_add (ep_ixOwn rfl ep_int (atI_nat (j := 1) rfl)) ep_int) rfl ep_int (by simp) ?_)
    refine run_setI (ev_op (Pa := Is _ (PyData.int a)) (ep_ixOwn rfl ep_int (atI_nat (j := 0) rfl)) fun x e z => ?_)
    obtain ⟨rfl, rfl⟩ := z
    refine ev_op (Pa := Is _ (PyData.int far)) (ep_var rfl) fun x e z => ?_
    obtain ⟨rfl, rfl⟩ := z
    refine ev_call ((ea_cons (ep_ixOwn rfl ep_int (atI_nat (j := 2) rfl)) (ea_cons (ev_add (ev_mulW ep_int (ep_ixOwn rfl ep_int (atI_nat (j := 1) rfl)) (cm (by decide) (by omega))) ep_int) ea_nil)).imp fun ds e z => ?_)
    obtain ⟨rfl, rfl⟩ := z
    refine ⟨⟨c, _, rfl, by omega⟩, fun r ⟨m, er, hm0, hm1⟩ => ?_⟩
    subst er
    have hm1 : m < 1000000000000000000000000000000000000000000000000000000000007 := hm1
    have hfm : 0 ≤ far * m := Int.mul_nonneg (by omega) hm0
    have hfm2 : far * m ≤ 1000 * m := Int.mul_le_mul_of_nonneg_right hf1 hm0
    refine ⟨_, rd_I (cm (by omega) (by omega)), _, rd_I0, p, _, rfl, ep_int.imp fun k e z => ?_⟩
    obtain ⟨rfl, rfl⟩ := z
    refine ⟨0, rfl, by simp, rfl, a + far * m, b + 1, rfl, by omega, ?_, by omega, by omega⟩
    have h1 : a + far * m < 2 ^ 300 := by omega
    exact Int.lt_trans h1 (by decide +kernel)
  · rintro e ⟨a, b, rfl, ha0, ha1, hb0, hb1⟩
    refine run_seq (run_setP (ev_mod (ep_ixOwn rfl ep_int (atI_nat (j := 0) rfl)) (ep_var rfl) (by omega)) ?_)
    refine run_seq (run_setIP (j := 0) (d := .int (a / far)) (ep_op (ep_ixOwn rfl ep_int (atI_nat (j := 0) rfl)) (ep_var rfl) (rd_I (wide_div (b := 10) (by omega) (by omega) (by decide) (by decide)))) rfl ep_int (by simp) ?_)
    have hd0 : 0 ≤ a / far := Int.ediv_nonneg ha0 (by omega)
    have hd1 : a / far ≤ a := Int.ediv_le_self far ha0
    refine run_closeP (i := 0) (n := n) rfl ⟨_, _, _, rfl, hd0, Int.lt_of_le_of_lt hd1 ha1, hb0, hb1, hc0, by omega⟩ ?_
    exact run_retP (ep_var rfl) ⟨⟨n, Nat.le_refl _, rfl⟩, far, _, rfl, rfl, Int.emod_nonneg _ (by omega), Int.emod_lt_of_pos _ (by omega)⟩
end
end Nt

set_option Elab.async false
set_option linter.all false
set_option autoImplicit false
set_option maxRecDepth 100000
set_option maxHeartbeats 4000000
/-! The law's own draws: picks, names, counts. -/
namespace Nt
open PySem PySem.Spec PyProof.Rows L2 Lw
section
variable {P : Program} {w : World} {K : PySem.W.Frag} {mg : Str → Option Value} {base : Heap} {env : Lw.Env} {te ta tb : TE} {d : PyData} {tr : TA}
/-! ### _law_at -/
theorem scAt : FnScope ["_law_script", "_law_k"] ["_law_script", "_law_k"] (defScope sAt) := ⟨rfl, rfl, rfl, by decide +kernel, rfl, by decide +kernel, by decide +kernel⟩
abbrev spAt (K : PySem.W.Frag) : Sp := fun vs H Q _ => ∃ (a : Addr) (ns : List Int) (k : Nat), vs = [.ref a, .int (k : Int)] ∧ k < 1000 ∧ SqL K H a (ns.map V.int) ∧ ∀ n : Int, Q (.int n) H
theorem ok_at (D : DefAt K mg "_law_at" sAt ["_law_script", "_law_k"]) (B : Bi mg) : Cal P w K mg base 1 "_law_at" (spAt K) := by
  refine D.cal scAt (fun vs H Q E ⟨a, ns, k, e, _⟩ => by rw [e]; rfl) fun f cdv A outer s H vs Q E hr ⟨a, ns, k, e, hk, hs, q⟩ => ⟨_, pss_cons (ps_if (pt_cmpR op_lt (pv 1) (pe_callB call_len (by rfl) B.len PySem.boot_len (pa_cons (pv 0) pa_nil)) (nomark _)) (pss_one (ps_ret (pe_ix ix_list (pv 0) (pv 1) (fun _ _ => rfl)))) pss_nil)
    (pss_one (ps_ret (pe_op op_add (pe_op op_mulW pe_int (pv 1)) pe_int))), ?_⟩
  subst e
  refine ⟨.int k, rfl, .ref a, rfl, .ref a, (ns.map V.int).length, rfl, .inl ⟨_, hs, rfl⟩, (k : Int), _, rfl, rfl, _, rfl, ?_⟩
  dsimp only
  by_cases h : (k : Int) < ((ns.map V.int).length : Nat)
  · rw [if_pos (decide_eq_true h)]
    rw [List.length_map] at h
    have hk' : k < ns.length := by omega
    refine ⟨.ref a, rfl, .int k, rfl, a, _, (k : Int), .int ns[k], rfl, rfl, hs, ?_, q _⟩
    rw [atI_nat]
    simp [hk']
  · rw [if_neg (by rw [decide_eq_true_eq]; exact h)]
    exact ⟨.int k, rfl, 3, (k : Int), rfl, rfl, wide_mul (a := 2) (b := 10) (by decide) (by omega) (by decide) (by decide) (by decide), 3 * (k : Int), 1, rfl, rfl, q _⟩
theorem ev_at {i : Nat} {ns : List Int} {k : Nat} {E0 : XK} (h0 : env[i]? = some (some (.seq ns))) (h : EvP K te env (.int (k : Int))) (hk : k < 1000) : EvE K (tCall (spAt K) [] E0 (tCons (tVar i) (tCons te tNil))) env fun d e => e = env ∧ ∃ n : Int, d = .int n := fun F I0 I σ H E Q q => by
  obtain ⟨v, h1, a, rfl, hs⟩ := E.at_ i _ h0
  refine ⟨.ref a, h1, h F I0 I σ H E _ fun v I1 H1 d e E1 x1 hd ⟨z1, z2⟩ => ?_⟩
  subst z1 z2
  cases dp_int hd
  exact ⟨a, ns, k, rfl, hk, (x1.trans E1.ih).l hs, fun n => q (.int n) I1 H1 (.int n) _ E1 x1 (.int n) ⟨rfl, n, rfl⟩⟩
/-! ### _law_pick -/
theorem scPick : FnScope ["_law_purse_here", "_law_some"] ["_law_purse_here", "_law_some"] (defScope sPick) := ⟨rfl, rfl, rfl, by decide +kernel, rfl, by decide +kernel, by decide +kernel⟩
abbrev spPick (K : PySem.W.Frag) : Sp := spU K 1 (fun ds => ∃ es, ds = [.list es] ∧ 1 ≤ es.length ∧ es.length ≤ 1000) fun ds r => ∃ es, ds = [.list es] ∧ r ∈ es
/-- a draw below far -/
theorem ev_take {p : Addr} {n : Nat} {i : Nat} {far : Int} {E0 : XK} {R : PyData → Lw.Env → Prop} (h0 : env[i]? = some (some (.prs p (n + 1)))) (h : EvPA K tr env [.int far]) (h1 : 1 ≤ far) (h2 : far ≤ 1000) (hk : ∀ g : Int, 0 ≤ g → g < far → R (.int g) (env.set i (some (.prs p n)))) : EvE K (tCall (spTake K) [] E0 (tCons (tVar i) tr)) env R :=
  ev_callP h0 h ⟨far, rfl, h1, h2⟩ fun d ⟨far', g, e, ed, g0, g1⟩ => by
    cases e
    subst ed
    exact hk g g0 g1
theorem ok_pick (D : DefAt K mg "_law_pick" sPick ["_law_purse_here", "_law_some"]) (B : Bi mg) (cT : Cal P w K mg base 2 "_law_take" (spTake K)) : Cal P w K mg base 3 "_law_pick" (spPick K) := by
  refine D.calU scPick (fun ds ⟨a, e, _⟩ => by rw [e]; rfl) fun f cdv A outer s H E hr => ⟨_, pss_one (ps_ret (pe_ix ix_list (pv 1) (pe_d cT hr (by decide) (by rfl) (pa_cons (pv 0) (pa_cons (pe_callB call_len (by rfl) B.len PySem.boot_len (pa_cons (pv 1) pa_nil)) pa_nil))) (fun _ _ => rfl))), ?_⟩
  rintro p n ds ⟨es, rfl, h1, h2⟩
  refine run_ret (ev_op (ep_var rfl) fun a e z => ?_)
  obtain ⟨rfl, rfl⟩ := z
  refine ev_take (far := (es.length : Int)) rfl (ea_cons (ep_cb (ea_cons (ep_var rfl) ea_nil) (rc_len rfl)) ea_nil) (by omega) (by omega) fun g g0 g1 => ?_
  obtain ⟨j, rfl⟩ : ∃ j : Nat, g = (j : Int) := ⟨g.toNat, by omega⟩
  have hj : j < es.length := by omega
  exact ⟨es[j], rd_ixL (by rw [atI_nat]; simp [hj]), ⟨n, Nat.le_refl _, rfl⟩, es, rfl, List.getElem_mem hj⟩
/-! ### _law_names -/
theorem scNames : FnScope [] [] (defScope sNames) := ⟨rfl, rfl, rfl, by decide +kernel, rfl, by decide +kernel, by decide +kernel⟩
abbrev menu : List Str := ["a", "b", "c2", "p1", "wait", "go", "x", "y9", "abcdefgh", "zz", "ready", "q7", "aa", "run8", "end", "start0", "pl1", "fires", "asx"]
theorem menu_split : Txt.split "a b c2 p1 wait go x y9 abcdefgh zz ready q7 aa run8 end start0 pl1 fires asx" " " = menu := by decide +kernel
abbrev spNames (K : PySem.W.Frag) : Sp := spF K (fun ds => ds = []) fun _ es => es = menu.map .str
theorem ok_names (D : DefAt K mg "_law_names" sNames []) : Cal P w K mg base 1 "_law_names" (spNames K) := by
  refine D.cal scNames (fun vs H Q E ⟨I, ds, _, hv, hd, _⟩ => by rw [dpA_len hv, hd]; rfl) fun f cdv A outer s H vs Q E hr ⟨I, ds, hI, hv, hd, q⟩ => ⟨_, pss_one (ps_ret (pe_split pe_str pe_str)), ?_⟩
  subst hd
  refine ⟨⟨_, rfl⟩, _, _, rfl, rfl, by decide +kernel, by decide +kernel, fun D hD => ?_⟩
  rw [menu_split]
  exact q D _ I _ _ hD (hI.back hD) (Ex.refl I) (hI.trans (Ex.new hD)) (Ex.new hD) (fun a _ h => h) upd_same (dq_strs menu) rfl
end
end Nt

set_option Elab.async false
set_option linter.all false
set_option autoImplicit false
set_option maxRecDepth 100000
set_option maxHeartbeats 4000000
/-! The law's own draws: some names, counts, parts. -/
namespace Nt
open PySem PySem.Spec PyProof.Rows L2 Lw
theorem perm_erase {α : Type} : ∀ (l : List α) (i : Nat) (h : i < l.length), (l[i] :: l.eraseIdx i).Perm l
  | x :: xs, 0, _ => List.Perm.refl _
  | x :: xs, i + 1, h => by
    have hi : i < xs.length := by simpa using h
    have ih := perm_erase xs i hi
    rw [List.getElem_cons_succ, List.eraseIdx_cons_succ]
    exact (List.Perm.swap x (xs[i]'hi) (xs.eraseIdx i)).trans (ih.cons x)
theorem map_erase {α β : Type} (f : α → β) : ∀ (l : List α) (i : Nat), (l.map f).eraseIdx i = (l.eraseIdx i).map f
  | [], _ => rfl
  | _ :: _, 0 => rfl
  | x :: xs, i + 1 => by
    rw [List.map_cons, List.eraseIdx_cons_succ, List.eraseIdx_cons_succ, List.map_cons, map_erase f xs i]
theorem popC {X : Cx} {K : PySem.W.Frag} {o e : Expr} {es : List Expr} {to : TE} {t : TA} {apos cpos : Pos} (h : X.K = K) (ho : PE X o to) (ha : PA X (e :: es) t)
    (hbase : attributeBase o "pop" X.env (eval o X.env) = eval o X.env := by rfl)
    (hfew : ((backTo cpos (starEach (e :: es) X.env)).all (fun x => !x.1) && (backToKw cpos (keywordEach [] X.env)).all (fun x => x.1.isSome)
      && decide ((e :: es).length + ([] : List Keyword).length + (if ([] : List Keyword).isEmpty then 0 else 1) < 30)) = true := by rfl)
    (hline : (apos.endLine == cpos.line) = true := by rfl) (hs : starEach (e :: es) X.env = (false, eval e X.env) :: starEach es X.env := by rfl) (hplain : (backTo cpos (starEach es X.env)).any (·.1) = false := by rfl) :
    PE X (.Call (.Attribute o "pop" apos) (e :: es) [] cpos) (tBM K "list" rPopAt to t) := h ▸ pe_bm PySem.F.plainAttrs_list PySem.F.slot_list_pop PySem.F.type_list_pop mt_popAt ho ha hbase hfew hline hs hplain
section
variable {P : Program} {w : World} {K : PySem.W.Frag} {mg : Str → Option Value} {base : Heap} {env : Lw.Env} {te ta tb : TE} {d : PyData} {tr : TA}
/-! ### _law_some_names -/
abbrev nSome : List Str := ["_law_purse_here", "_law_many", "_law_left", "_law_k"]
theorem scSome : FnScope nSome ["_law_purse_here", "_law_many"] (defScope sSomeNames) := ⟨rfl, rfl, rfl, by decide +kernel, rfl, by decide +kernel, by decide +kernel⟩
/-- names of the menu, unlike -/
def NamesOk (zs : List Str) : Prop := zs.Nodup ∧ ∀ z ∈ zs, z ∈ menu
abbrev spSome (K : PySem.W.Frag) : Sp := spU K 6 (fun ds => ∃ m : Nat, ds = [.int (m : Int)] ∧ m ≤ 6) fun ds r => ∃ (m : Nat) (zs : List Str), ds = [.int (m : Int)] ∧ r = .list (zs.map .str) ∧ zs.length = m ∧ NamesOk zs
theorem ok_some (D : DefAt K mg "_law_some_names" sSomeNames ["_law_purse_here", "_law_many"]) (B : Bi mg) (cT : Cal P w K mg base 2 "_law_take" (spTake K)) (cN : Cal P w K mg base 1 "_law_names" (spNames K)) : Cal P w K mg base 3 "_law_some_names" (spSome K) := by
  refine D.calU scSome (fun ds ⟨a, e, _⟩ => by rw [e]; rfl) fun f cdv A outer s H E hr => ⟨_, pss_cons (ps_set (i := 2) scSome.nd rfl (.inr rfl) (pe_d0 cN hr (by decide) (by rfl)))
    (pss_one (ps_ret (pe_lc (own := [("_law_k", 3)]) (g := gName 3) (tt := tYes) rfl scSome.nd (pi_range1 (by rfl) B.range (pa_cons (pv 1) pa_nil)) (blkOk_by (own := [("_law_k", 3)]) (N := nSome) (sc := defScope sSomeNames) (by decide +kernel)) (fun _ _ _ _ _ => pg_name (i := 3) scSome.nd rfl (Or.inl rfl)) (fun _ _ _ _ _ => pts_nil)
        (fun _ _ _ _ _ => popC (K := K) rfl (pv 2) (pa_cons (pe_d cT hr (by decide) (by rfl) (pa_cons (pv 0) (pa_cons (pe_callB (lenC (K := K)) (by rfl) B.len PySem.boot_len (pa_cons (pv 2) pa_nil)) pa_nil))) pa_nil))))), ?_⟩
  rintro p n ds ⟨m, rfl, hm⟩
  refine run_seq (run_setF ea_nil rfl fun q es e => ?_)
  subst e
  refine run_ret (ev_lc (vs := [3]) (ew_rng1 (n := (m : Int)) (by omega) (ea_cons (ep_var rfl) ea_nil)) rfl (by rw [intsD_len]; omega)
    (fun j as e => ∃ ys zs : List Str, as = ys.map .str ∧ e = [some (.prs p (n + (6 - j))), some (.dat (.int (m : Int))), some (.lst q (zs.map .str)), none] ∧ ys.length = j ∧ ys.length + zs.length = 19 ∧ NamesOk (ys ++ zs))
    ⟨[], menu, rfl, rfl, rfl, rfl, by decide +kernel, fun z hz => hz⟩ (fun j d as e hd ⟨ys, zs, ea, ee, hy, hl, hn1, hn2⟩ => ?_) (own_name (by simp)) fun as e ⟨ys, zs, ea, ee, hy, hl, hn1, hn2⟩ _ => ?_)
  · subst ea ee
    have hj : j < m := by
      have := (List.getElem?_eq_some_iff.mp hd).1
      rw [intsD_len] at this
      omega
    refine tgt_name (ept_yes.imp fun b e z => ?_)
    obtain ⟨rfl, rfl⟩ := z
    rw [if_pos rfl]
    refine ev_popAt (i := 2) (p := q) (ds := zs.map .str) rfl ?_
    refine ev_take (p := p) (n := n + (6 - (j + 1))) (i := 0) (far := ((zs.map PyData.str).length : Int)) (by show some (some (Val.prs p (n + (6 - j)))) = _; rw [show n + (6 - j) = n + (6 - (j + 1)) + 1 from by omega]) (ea_cons (ep_lenL rfl) ea_nil) (by rw [List.length_map]; omega) (by rw [List.length_map]; omega) fun g g0 g1 => ?_
    rw [List.length_map] at g1
    obtain ⟨k, rfl⟩ : ∃ k : Nat, g = (k : Int) := ⟨g.toNat, by omega⟩
    have hk : k < zs.length := by omega
    refine ⟨k, .str zs[k], rfl, by omega, by simp [hk], rfl, ys ++ [zs[k]], zs.eraseIdx k, by simp, ?_, by simp [hy], ?_, ?_⟩
    · rw [map_erase]
      rfl
    · rw [List.length_append, List.length_eraseIdx_of_lt hk, List.length_singleton]
      omega
    · have hp : (ys ++ [zs[k]] ++ zs.eraseIdx k).Perm (ys ++ zs) := by
        rw [List.append_assoc]
        exact (perm_erase zs k hk).append_left ys
      exact ⟨hp.nodup_iff.mpr hn1, fun z hz => hn2 z (hp.mem_iff.mp hz)⟩
  · subst ea ee
    rw [intsD_len] at hy
    refine ⟨⟨_, by omega, rfl⟩, m, ys, rfl, rfl, by omega, (List.nodup_append.mp hn1).1, fun z hz => hn2 z (List.mem_append_left _ hz)⟩
end
end Nt

set_option Elab.async false
set_option linter.all false
set_option autoImplicit false
set_option maxRecDepth 100000
set_option maxHeartbeats 4000000
/-! The law's own draws: counts, parts. -/
namespace Nt
open PySem PySem.Spec PyProof.Rows L2 Lw
section
variable {P : Program} {w : World} {K : PySem.W.Frag} {mg : Str → Option Value} {base : Heap} {env : Lw.Env} {te ta tb : TE} {d : PyData} {tr : TA}
/-! ### _law_count -/
theorem scCount : FnScope ["_law_purse_here", "_law_low"] ["_law_purse_here", "_law_low"] (defScope sCount) := ⟨rfl, rfl, rfl, by decide +kernel, rfl, by decide +kernel, by decide +kernel⟩
abbrev spCount (K : PySem.W.Frag) : Sp := spU K 1 (fun ds => ∃ l : Int, ds = [.int l] ∧ l ≤ 1) fun ds r => ∃ l c : Int, ds = [.int l] ∧ r = .int c ∧ l ≤ c ∧ c ≤ 999999999
theorem ok_count (D : DefAt K mg "_law_count" sCount ["_law_purse_here", "_law_low"]) (B : Bi mg) (cP : Cal P w K mg base 3 "_law_pick" (spPick K)) : Cal P w K mg base 4 "_law_count" (spCount K) := by
  refine D.calU scCount (fun ds ⟨a, e, _⟩ => by rw [e]; rfl) fun f cdv A outer s H E hr => ⟨_, pss_one (ps_ret (pe_callB (call_max2 rfl) (by rfl) B.max (by decide +kernel) (pa_cons (pv 1) (pa_cons (pe_d cP hr (by decide) (by rfl) (pa_cons (pv 0) (pa_cons (pe_lst (pa_cons pe_int (pa_cons pe_int (pa_cons pe_int (pa_cons pe_int (pa_cons pe_int (pa_cons pe_int (pa_cons pe_int (pa_cons pe_int (pa_cons pe_int pa_nil)))))))))) pa_nil))) pa_nil)))), ?_⟩
  rintro p n ds ⟨l, rfl, hl⟩
  refine run_ret (ev_cb (ev_cons (ep_var rfl) fun a e z => ?_))
  obtain ⟨rfl, rfl⟩ := z
  refine ev_cons (ev_callP (n := n) rfl (ea_cons (ep_lst (ea_cons ep_int (ea_cons ep_int (ea_cons ep_int (ea_cons ep_int (ea_cons ep_int (ea_cons ep_int (ea_cons ep_int (ea_cons ep_int (ea_cons ep_int ea_nil))))))))) (by decide)) ea_nil) ⟨_, rfl, by decide, by decide⟩ (R := fun d e => (∃ c : Int, d = .int c ∧ 0 ≤ c ∧ c ≤ 999999999) ∧ e[0]? = some (some (.prs p n))) fun d ⟨es, e1, e2⟩ => ⟨?_, rfl⟩) fun a e ⟨⟨c, ea, h0, h1⟩, h2⟩ => ea_nil.imp fun as e' z => ?_
  · cases e1
    simp only [List.mem_cons, List.not_mem_nil, or_false] at e2
    rcases e2 with rfl | rfl | rfl | rfl | rfl | rfl | rfl | rfl | rfl <;> exact ⟨_, rfl, by decide, by decide⟩
  · obtain ⟨rfl, rfl⟩ := z
    subst ea
    refine ⟨_, rc_max2, ⟨n, Nat.le_refl _, h2⟩, l, _, rfl, rfl, ?_, ?_⟩ <;> split <;> omega
/-! ### _law_parts -/
abbrev nLParts : List Str := ["_law_purse_here", "_law_names_here", "_law_some", "_law_name"]
theorem scLParts : FnScope nLParts ["_law_purse_here", "_law_names_here"] (defScope sLParts) := ⟨rfl, rfl, rfl, by decide +kernel, rfl, by decide +kernel, by decide +kernel⟩
/-- parts by names out of zs, in their order -/
def PartsOk (zs : List Str) (ps : List (Str × Int)) : Prop := (ps.map (·.1)).Sublist zs ∧ ∀ q ∈ ps, 1 ≤ q.2 ∧ q.2 ≤ 999999999
def partD (q : Str × Int) : PyData := .tuple [.str q.1, .int q.2]
abbrev spLParts (K : PySem.W.Frag) : Sp := spU K 12 (fun ds => ∃ zs : List Str, ds = [.list (zs.map .str)] ∧ zs.length ≤ 6) fun ds r => ∃ (zs : List Str) (ps : List (Str × Int)), ds = [.list (zs.map .str)] ∧ r = .tuple (ps.map partD) ∧ PartsOk zs ps
theorem ok_lparts (D : DefAt K mg "_law_parts" sLParts ["_law_purse_here", "_law_names_here"]) (B : Bi mg) (cT : Cal P w K mg base 2 "_law_take" (spTake K)) (cC : Cal P w K mg base 4 "_law_count" (spCount K)) : Cal P w K mg base 5 "_law_parts" (spLParts K) := by
  refine D.calU scLParts (fun ds ⟨a, e, _⟩ => by rw [e]; rfl) fun f cdv A outer s H E hr => ⟨_, pss_cons (ps_setLc (own := [("_law_name", 3)]) (i := 2) (g := gName 3) rfl scLParts.nd rfl rfl (by rfl) (pi_list (pv 1)) (blkOk_by (own := [("_law_name", 3)]) (N := nLParts) (sc := defScope sLParts) (by decide +kernel)) (fun _ _ _ _ _ => pg_name (i := 3) scLParts.nd rfl (Or.inl rfl))
        (fun _ _ _ _ _ => pts_one (pt_cmpR op_eq (pe_d cT hr (by decide) (by rfl) (pa_cons (pv 0) (pa_cons pe_int pa_nil))) pe_int (nomark _))) (fun _ _ _ _ _ => pv 3))
    (pss_one (ps_ret (pe_callTy call_tuple_of (by rfl) B.tup PyProof.Rows.boot_tuple (pa_cons (pe_lc (own := [("_law_name", 3)]) (g := gName 3) (tt := tYes) rfl scLParts.nd (pi_list (pv 2)) (blkOk_by (own := [("_law_name", 3)]) (N := nLParts) (sc := defScope sLParts) (by decide +kernel)) (fun _ _ _ _ _ => pg_name (i := 3) scLParts.nd rfl (Or.inl rfl)) (fun _ _ _ _ _ => pts_nil)
        (fun _ _ _ _ _ => pe_tup (pa_cons (pv 3) (pa_cons (pe_d cC hr (by decide) (by rfl) (pa_cons (pv 0) (pa_cons pe_int pa_nil))) pa_nil)))) pa_nil)))), ?_⟩
  rintro p n ds ⟨zs, rfl, hz⟩
  have hzl : (zs.map PyData.str).length ≤ 6 := by rw [List.length_map]; exact hz
  refine run_seq (run_set (ev_lc (vs := [3]) (ew_list (ep_var rfl)) rfl (by omega)
    (fun j as e => ∃ ys : List Str, as = ys.map .str ∧ e = [some (.prs p (n + 6 + (6 - j))), some (.dat (.list (zs.map .str))), none, none] ∧ ys.Sublist (zs.take j))
    ⟨[], rfl, rfl, List.Sublist.refl _⟩ (fun j d as e hd ⟨ys, ea, ee, hy⟩ => ?_) (own_name (by simp)) fun as e ⟨ys, ea, ee, hy⟩ _ => ?_))
  · subst ea ee
    have hj : j < zs.length := by
      have := (List.getElem?_eq_some_iff.mp hd).1
      simpa using this
    obtain rfl : .str zs[j] = d := by simpa [hj] using hd
    have ht : zs.take (j + 1) = zs.take j ++ [zs[j]] := by rw [List.take_add_one, List.getElem?_eq_getElem hj]; rfl
    refine tgt_name (et_test (ev_op (ev_take (p := p) (n := n + 6 + (6 - (j + 1))) (i := 0) (by show some (some (Val.prs p (n + 6 + (6 - j)))) = _; rw [show n + 6 + (6 - j) = n + 6 + (6 - (j + 1)) + 1 from by omega]) (ea_cons ep_int ea_nil) (by decide) (by decide)
      (R := fun d e => (∃ g : Int, d = .int g) ∧ e = [some (.prs p (n + 6 + (6 - (j + 1)))), some (.dat (.list (zs.map .str))), none, some (.dat (.str zs[j]))]) fun g _ _ => ⟨⟨g, rfl⟩, rfl⟩) fun a e ⟨⟨g, ea⟩, ee⟩ => ?_))
    subst ea ee
    refine ep_int.imp fun b e z => ?_
    obtain ⟨rfl, rfl⟩ := z
    refine ⟨_, rd_eqI, _, rfl, ?_⟩
    split
    · refine (ep_var rfl).imp fun c e z => ?_
      obtain ⟨rfl, rfl⟩ := z
      exact ⟨ys ++ [zs[j]], by simp, rfl, by rw [ht]; exact hy.append (List.Sublist.refl _)⟩
    · exact ⟨ys, rfl, rfl, by rw [ht]; exact hy.trans (List.sublist_append_left _ _)⟩
  · subst ea ee
    have hys : ys.Sublist zs := hy.trans (List.take_sublist _ _)
    have hyl' : ys.length ≤ 6 := Nat.le_trans hys.length_le hz
    have hyl : (ys.map PyData.str).length ≤ 6 := by rw [List.length_map]; exact Nat.le_trans hys.length_le hz
    refine run_less (i := 0) (p := p) (m := n + 6) rfl (by omega) ?_
    refine run_ret (ev_cb (ev_cons (ev_lc (vs := [3]) (ew_list (ep_var rfl)) rfl (by omega)
      (fun j as e => ∃ ps : List (Str × Int), as = ps.map partD ∧ e = [some (.prs p (n + (6 - j))), some (.dat (.list (zs.map .str))), some (.dat (.list (ys.map .str))), none] ∧ ps.map (·.1) = ys.take j ∧ ∀ q ∈ ps, 1 ≤ q.2 ∧ q.2 ≤ 999999999)
      ⟨[], rfl, rfl, rfl, fun q hq => by cases hq⟩ (fun j d as e hd ⟨ps, ea, ee, hp, hq⟩ => ?_) (own_name (by simp)) (R := fun d e => ∃ ps : List (Str × Int), d = .list (ps.map partD) ∧ PartsOk zs ps ∧ ∃ m, n ≤ m ∧ e[0]? = some (some (.prs p m))) fun as e ⟨ps, ea, ee, hp, hq⟩ _ => ?_) fun a e ⟨ps, ea, h1, h2⟩ => ea_nil.imp fun as e' z => ?_))
    · subst ea ee
      have hj : j < ys.length := by
        have := (List.getElem?_eq_some_iff.mp hd).1
        simpa using this
      obtain rfl : .str ys[j] = d := by simpa [hj] using hd
      have ht : ys.take (j + 1) = ys.take j ++ [ys[j]] := by rw [List.take_add_one, List.getElem?_eq_getElem hj]; rfl
      refine tgt_name (ept_yes.imp fun b e z => ?_)
      obtain ⟨rfl, rfl⟩ := z
      rw [if_pos rfl]
      obtain ⟨E2, hE2⟩ : ∃ E2 : Lw.Env, E2 = [some (.prs p (n + (6 - (j + 1)))), some (.dat (.list (zs.map .str))), some (.dat (.list (ys.map .str))), some (.dat (.str ys[j]))] := ⟨_, rfl⟩
      refine ev_tup (Pa := fun ds e => ∃ c : Int, ds = [.str ys[j], .int c] ∧ 1 ≤ c ∧ c ≤ 999999999 ∧ e = E2) (ev_cons (ep_var rfl) fun a e z => ?_) fun ds e q => ?_
      · obtain ⟨rfl, rfl⟩ := z
        refine ev_cons (ev_callP (p := p) (n := n + (6 - (j + 1))) (i := 0) (by show some (some (Val.prs p (n + (6 - j)))) = _; rw [show n + (6 - j) = n + (6 - (j + 1)) + 1 from by omega]) (ea_cons ep_int ea_nil) ⟨1, rfl, by decide⟩ (R := fun d e => ∃ c : Int, d = .int c ∧ 1 ≤ c ∧ c ≤ 999999999 ∧ e = E2) fun d ⟨l, c, e1, e2, h1, h2⟩ => ?_) fun a e ⟨c, ea, h1, h2, ee⟩ => ea_nil.imp fun as e' z => ?_
        · cases e1
          exact ⟨c, e2, h1, h2, hE2.symm⟩
        · obtain ⟨rfl, rfl⟩ := z
          subst ea ee
          exact ⟨c, rfl, h1, h2, rfl⟩
      · obtain ⟨c, rfl, h1, h2, rfl⟩ := q
        subst hE2
        refine ⟨by simp, ps ++ [(ys[j], c)], by simp [partD], rfl, by rw [ht, List.map_append, hp]; rfl, fun q hq' => ?_⟩
        rcases List.mem_append.mp hq' with h | h
        · exact hq q h
        · simp only [List.mem_singleton] at h
          subst h
          exact ⟨h1, h2⟩
    · subst ea ee
      exact ⟨ps, rfl, ⟨by rw [hp]; exact (List.take_sublist _ _).trans hys, hq⟩, _, by omega, rfl⟩
    · obtain ⟨rfl, rfl⟩ := z
      subst ea
      exact ⟨_, rc_tupL, h2, zs, ps, rfl, rfl, h1⟩
end
end Nt

set_option Elab.async false
set_option linter.all false
set_option autoImplicit false
set_option maxRecDepth 100000
set_option maxHeartbeats 4000000
/-! The law's own draws: a net. -/
namespace Nt
open PySem PySem.Spec PyProof.Rows L2 Lw
abbrev Fire := Str × Str × List (Str × Int) × List (Str × Int)
def fireD (f : Fire) : PyData := .tuple [.str f.1, .str f.2.1, .tuple (f.2.2.1.map partD), .tuple (f.2.2.2.map partD)]
def netD (qs : List (Str × Int)) (fs : List Fire) : PyData := .tuple [.tuple (qs.map partD), .tuple (fs.map fireD)]
structure NetOk (qs : List (Str × Int)) (fs : List Fire) : Prop where
  names : NamesOk (qs.map (·.1))
  ne : 1 ≤ qs.length
  le : qs.length ≤ 6
  cnt : ∀ q ∈ qs, 0 ≤ q.2 ∧ q.2 ≤ 999999999
  fn : NamesOk (fs.map (·.1))
  fl : fs.length ≤ 5
  fo : ∀ f ∈ fs, (f.2.1 = "" ∨ f.2.1 = "lab1" ∨ f.2.1 ∈ menu) ∧ PartsOk (qs.map (·.1)) f.2.2.1 ∧ PartsOk (qs.map (·.1)) f.2.2.2
section
variable {P : Program} {w : World} {K : PySem.W.Frag} {mg : Str → Option Value} {base : Heap} {env : Lw.Env} {te ta tb : TE} {d : PyData} {tr : TA}
abbrev nLNet : List Str := ["_law_purse_here", "_law_names_here", "_law_places", "_law_firings", "_law_name", "_law_label", "_law_takes"]
theorem scLNet : FnScope nLNet ["_law_purse_here"] (defScope sLNet) := ⟨rfl, rfl, rfl, by decide +kernel, rfl, by decide +kernel, by decide +kernel⟩
abbrev spLNet (K : PySem.W.Frag) : Sp := spU K 145 (fun ds => ds = []) fun _ r => ∃ qs fs, r = netD qs fs ∧ NetOk qs fs
theorem ok_lnet (D : DefAt K mg "_law_net" sLNet ["_law_purse_here"]) (B : Bi mg) (cT : Cal P w K mg base 2 "_law_take" (spTake K)) (cS : Cal P w K mg base 3 "_law_some_names" (spSome K)) (cC : Cal P w K mg base 4 "_law_count" (spCount K)) (cK : Cal P w K mg base 3 "_law_pick" (spPick K)) (cP : Cal P w K mg base 5 "_law_parts" (spLParts K)) : Cal P w K mg base 6 "_law_net" (spLNet K) := by
  refine D.calU scLNet (fun ds e => by rw [e]; rfl) fun f cdv A outer s H E hr => ⟨_, pss_cons (ps_set (i := 1) scLNet.nd rfl (.inl rfl) (pe_d cS hr (by decide) (by rfl) (pa_cons (pv 0) (pa_cons (pe_op op_add pe_int (pe_d cT hr (by decide) (by rfl) (pa_cons (pv 0) (pa_cons pe_int pa_nil)))) pa_nil))))
    (pss_cons (ps_set (i := 2) scLNet.nd rfl (.inl rfl) (pe_callTy call_tuple_of (by rfl) B.tup PyProof.Rows.boot_tuple (pa_cons (pe_lc (own := [("_law_name", 4)]) (g := gName 4) (tt := tYes) rfl scLNet.nd (pi_list (pv 1)) (blkOk_by (own := [("_law_name", 4)]) (N := nLNet) (sc := defScope sLNet) (by decide +kernel)) (fun _ _ _ _ _ => pg_name (i := 4) scLNet.nd rfl (Or.inl rfl)) (fun _ _ _ _ _ => pts_nil)
        (fun _ _ _ _ _ => pe_tup (pa_cons (pv 4) (pa_cons (pe_d cC hr (by decide) (by rfl) (pa_cons (pv 0) (pa_cons pe_int pa_nil))) pa_nil)))) pa_nil)))
    (pss_cons (ps_set (i := 3) scLNet.nd rfl (.inl rfl) (pe_lst pa_nil))
    (pss_cons (ps_for PassesOwn.never rfl (pi_list (pe_d cS hr (by decide) (by rfl) (pa_cons (pv 0) (pa_cons (pe_d cT hr (by decide) (by rfl) (pa_cons (pv 0) (pa_cons pe_int pa_nil))) pa_nil)))) (pg_name (i := 4) scLNet.nd rfl (.inl rfl))
      (pss_cons (ps_set (i := 5) scLNet.nd rfl (.inl rfl) (pe_d cK hr (by decide) (by rfl) (pa_cons (pv 0) (pa_cons (pe_lst (pa_cons pe_str (pa_cons pe_str (pa_cons pe_str (pa_cons pe_str (pa_cons (pv 4) (pa_cons pe_str pa_nil))))))) pa_nil))))
      (pss_cons (ps_set (i := 6) scLNet.nd rfl (.inl rfl) (pe_d cP hr (by decide) (by rfl) (pa_cons (pv 0) (pa_cons (pv 1) pa_nil))))
      (pss_one (ps_expr (pe_bm PySem.F.plainAttrs_list PySem.F.slot_list_append PySem.F.type_list_append mt_append (pv 3) (pa_cons (pe_tup (pa_cons (pv 4) (pa_cons (pv 5) (pa_cons (pv 6) (pa_cons (pe_d cP hr (by decide) (by rfl) (pa_cons (pv 0) (pa_cons (pv 1) pa_nil))) pa_nil))))) pa_nil)))))))
    (pss_one (ps_ret (pe_tup (pa_cons (pv 2) (pa_cons (pe_callTy call_tuple_of (by rfl) B.tup PyProof.Rows.boot_tuple (pa_cons (pv 3) pa_nil)) pa_nil)))))))), ?_⟩
  rintro p n ds rfl
  -- the names
  refine run_seq (run_set (ev_callU2 (p := p) (n0 := n + 145) rfl (ev_cons (ev_op ep_int fun a e z => ?_) fun a e (q : ∃ m : Nat, a = .int (m : Int) ∧ 1 ≤ m ∧ m ≤ 6 ∧ e = [some (.prs p (n + 138 + 6)), none, none, none, none, none, none]) => ea_nil.imp fun as e' z => ?_)))
  · obtain ⟨rfl, rfl⟩ := z
    refine ev_take (p := p) (n := n + 144) rfl (ea_cons ep_int ea_nil) (by decide) (by decide) fun g g0 g1 => ⟨_, rd_I0, (1 + g).toNat, by rw [Int.toNat_of_nonneg (by omega)], by omega, by omega, rfl⟩
  obtain ⟨rfl, rfl⟩ := z
  obtain ⟨m, rfl, hm1, hm6, rfl⟩ := q
  refine ⟨⟨m, rfl, hm6⟩, n + 138, rfl, fun d ⟨m', zs, ed, er, hz, hn⟩ => ?_⟩
  cases ed
  subst er
  -- the places
  have hzl : (zs.map PyData.str).length ≤ 6 := by rw [List.length_map]; omega
  refine run_seq (run_set (ev_cb (ev_cons (ev_lc (vs := [4]) (ew_list (ep_var rfl)) rfl (by omega)
      (fun j as e => ∃ ps : List (Str × Int), as = ps.map partD ∧ e = [some (.prs p (n + 132 + (6 - j))), some (.dat (.list (zs.map .str))), none, none, none, none, none] ∧ ps.map (·.1) = zs.take j ∧ ∀ q ∈ ps, 0 ≤ q.2 ∧ q.2 ≤ 999999999)
      ⟨[], rfl, rfl, rfl, fun q hq => by cases hq⟩ (fun j d as e hd ⟨ps, ea, ee, hp, hq⟩ => ?_) (own_name (by simp)) (R := fun d e => ∃ ps : List (Str × Int), d = .list (ps.map partD) ∧ (ps.map (·.1) = zs ∧ ∀ q ∈ ps, 0 ≤ q.2 ∧ q.2 ≤ 999999999) ∧ ∃ j, e = [some (.prs p (n + 132 + j)), some (.dat (.list (zs.map .str))), none, none, none, none, none]) fun as e ⟨ps, ea, ee, hp, hq⟩ _ => ?_) fun a e ⟨qs, ea, h1, h2⟩ => ea_nil.imp fun as e' z => ?_)))
  · subst ea ee
    have hj : j < zs.length := by
      have := (List.getElem?_eq_some_iff.mp hd).1
      simpa using this
    obtain rfl : .str zs[j] = d := by simpa [hj] using hd
    have ht : zs.take (j + 1) = zs.take j ++ [zs[j]] := by rw [List.take_add_one, List.getElem?_eq_getElem hj]; rfl
    refine tgt_name (ept_yes.imp fun b e z => ?_)
    obtain ⟨rfl, rfl⟩ := z
    rw [if_pos rfl]
    obtain ⟨E2, hE2⟩ : ∃ E2 : Lw.Env, E2 = [some (.prs p (n + 132 + (6 - (j + 1)))), some (.dat (.list (zs.map .str))), none, none, some (.dat (.str zs[j])), none, none] := ⟨_, rfl⟩
    refine ev_tup (Pa := fun ds e => ∃ c : Int, ds = [.str zs[j], .int c] ∧ 0 ≤ c ∧ c ≤ 999999999 ∧ e = E2) (ev_cons (ep_var rfl) fun a e z => ?_) fun ds e q => ?_
    · obtain ⟨rfl, rfl⟩ := z
      refine ev_cons (ev_callP (p := p) (n := n + 132 + (6 - (j + 1))) (i := 0) (by show some (some (Val.prs p (n + 132 + (6 - j)))) = _; rw [show n + 132 + (6 - j) = n + 132 + (6 - (j + 1)) + 1 from by omega]) (ea_cons ep_int ea_nil) ⟨0, rfl, by decide⟩ (R := fun d e => ∃ c : Int, d = .int c ∧ 0 ≤ c ∧ c ≤ 999999999 ∧ e = E2) fun d ⟨l, c, e1, e2, h1, h2⟩ => ?_) fun a e ⟨c, ea, h1, h2, ee⟩ => ea_nil.imp fun as e' z => ?_
      · cases e1
        exact ⟨c, e2, h1, h2, hE2.symm⟩
      · obtain ⟨rfl, rfl⟩ := z
        subst ea ee
        exact ⟨c, rfl, h1, h2, rfl⟩
    · obtain ⟨c, rfl, h1, h2, rfl⟩ := q
      subst hE2
      refine ⟨by simp, ps ++ [(zs[j], c)], by simp [partD], rfl, by rw [ht, List.map_append, hp]; rfl, fun q hq' => ?_⟩
      rcases List.mem_append.mp hq' with h | h
      · exact hq q h
      · simp only [List.mem_singleton] at h
        subst h
        exact ⟨h1, h2⟩
  · subst ea ee
    rw [List.length_map] at hp
    exact ⟨ps, rfl, ⟨by rw [hp]; exact List.take_length, hq⟩, _, rfl⟩
  obtain ⟨rfl, rfl⟩ := z
  subst ea
  obtain ⟨j0, rfl⟩ := h2
  obtain ⟨h1, hcnt⟩ := h1
  refine ⟨_, rc_tupL, ?_⟩
  clear hzl
  subst h1
  rw [List.length_map] at hz
  have hqs : PartsOk (qs.map (·.1)) [] := ⟨List.nil_sublist _, fun q hq => by cases hq⟩
  -- the firings
  refine run_seq (run_newL fun q => ?_)
  refine run_seq (run_forE (ewe_list (ev_callU2 (p := p) (n0 := n + 132 + j0) rfl (ev_cons (ev_take (p := p) (n := n + 131 + j0) (i := 0) (far := 6) (by show some (some (Val.prs p (n + 132 + j0))) = _; rw [show n + 132 + j0 = n + 131 + j0 + 1 from by omega]) (ea_cons ep_int ea_nil) (by decide) (by decide)
    (R := fun d e => ∃ m : Nat, d = .int (m : Int) ∧ m ≤ 5 ∧ e = [some (.prs p (n + 131 + j0)), some (.dat (.list ((qs.map (·.1)).map .str))), some (.dat (.tuple (qs.map partD))), some (.lst q []), none, none, none])
    fun g g0 g1 => ⟨g.toNat, by rw [Int.toNat_of_nonneg g0], by omega, rfl⟩) fun a e ⟨m, ea, hm5, ee⟩ => ea_nil.imp fun as e' z => ?_))))
  obtain ⟨rfl, rfl⟩ := z
  subst ea ee
  refine ⟨⟨m, rfl, by omega⟩, n + 125 + j0, by show some (some (Val.prs p (n + 131 + j0))) = _; rw [show n + 131 + j0 = n + 125 + j0 + 6 from by omega], fun d ⟨m', ws, ed, er, hw, hwn⟩ => ?_⟩
  cases ed
  subst er
  refine ⟨_, rfl, fun j e => ∃ (fs : List Fire) (x4 x5 x6 : Option Val), fs.map (·.1) = ws.take j ∧ (∀ f ∈ fs, (f.2.1 = "" ∨ f.2.1 = "lab1" ∨ f.2.1 ∈ menu) ∧ PartsOk (qs.map (·.1)) f.2.2.1 ∧ PartsOk (qs.map (·.1)) f.2.2.2) ∧
    e = [some (.prs p (n + j0 + 25 * (5 - j))), some (.dat (.list ((qs.map (·.1)).map .str))), some (.dat (.tuple (qs.map partD))), some (.lst q (fs.map fireD)), x4, x5, x6], ?_, fun j d e hd ⟨fs, x4, x5, x6, hf, hfo, ee⟩ => ?_, fun e ⟨fs, x4, x5, x6, hf, hfo, ee⟩ => ?_⟩
  · exact ⟨[], none, none, none, rfl, fun f hf => absurd hf List.not_mem_nil, congrArg (fun m => some (Val.prs p m) :: _) (by omega)⟩
  · subst ee
    have hj : j < ws.length := by
      have := (List.getElem?_eq_some_iff.mp hd).1
      simpa using this
    obtain rfl : .str ws[j] = d := by simpa [hj] using hd
    have ht : ws.take (j + 1) = ws.take j ++ [ws[j]] := by rw [List.take_add_one, List.getElem?_eq_getElem hj]; rfl
    have hwm : ws[j] ∈ menu := hwn.2 _ (List.getElem_mem hj)
    obtain ⟨c, hc⟩ : ∃ c, c = n + j0 + 25 * (5 - (j + 1)) := ⟨_, rfl⟩
    rw [show n + j0 + 25 * (5 - j) = c + 25 from by omega]
    refine tgt_name (run_seq (run_set (ev_callP (p := p) (n := c + 24) rfl (ea_cons (ep_lst (ea_cons ep_str (ea_cons ep_str (ea_cons ep_str (ea_cons ep_str (ea_cons (ep_var rfl) (ea_cons ep_str ea_nil)))))) (by simp)) ea_nil) ⟨_, rfl, by simp, by simp⟩ fun d ⟨es, e1, e2⟩ => ?_)))
    have hl : ∃ l : Str, d = .str l ∧ (l = "" ∨ l = "lab1" ∨ l ∈ menu) := by
      cases e1
      simp only [List.mem_cons, List.not_mem_nil, or_false] at e2
      rcases e2 with rfl | rfl | rfl | rfl | rfl | rfl
      · exact ⟨_, rfl, .inl rfl⟩
      · exact ⟨_, rfl, .inl rfl⟩
      · exact ⟨_, rfl, .inr (.inr (by decide +kernel))⟩
      · exact ⟨_, rfl, .inr (.inl rfl)⟩
      · exact ⟨_, rfl, .inr (.inr hwm)⟩
      · exact ⟨_, rfl, .inr (.inr (by decide +kernel))⟩
    obtain ⟨l, rfl, hl⟩ := hl
    refine run_seq (run_set (ev_callP (p := p) (n := c + 12) rfl (ea_cons (ep_var rfl) ea_nil) ⟨_, rfl, by rw [List.length_map]; omega⟩ fun d ⟨zs, ps, e1, e2, hps⟩ => ?_))
    have e1 : zs = qs.map (·.1) := by
      have e1 := e1.symm
      injection e1 with e1
      injection e1 with e1
      exact List.map_inj_right (fun a b h => by injection h) |>.mp e1
    subst e1 e2
    refine run_app (ev_tup (Pa := fun ds e => ∃ gs, PartsOk (qs.map (·.1)) gs ∧ ds = [.str ws[j], .str l, .tuple (ps.map partD), .tuple (gs.map partD)] ∧ e = [some (.prs p c), some (.dat (.list ((qs.map (·.1)).map .str))), some (.dat (.tuple (qs.map partD))), some (.lst q (fs.map fireD)), some (.dat (.str ws[j])), some (.dat (.str l)), some (.dat (.tuple (ps.map partD)))]) ?_ fun ds e ⟨gs, hgs, e1, e2⟩ => ?_) ⟨q, _, rfl⟩
    · refine ev_cons (ep_var rfl) fun a e z => ?_
      obtain ⟨rfl, rfl⟩ := z
      refine ev_cons (ep_var rfl) fun a e z => ?_
      obtain ⟨rfl, rfl⟩ := z
      refine ev_cons (ep_var rfl) fun a e z => ?_
      obtain ⟨rfl, rfl⟩ := z
      refine ev_cons (ev_callP (p := p) (n := c) rfl (ea_cons (ep_var rfl) ea_nil) ⟨_, rfl, by rw [List.length_map]; omega⟩ (R := fun d e => ∃ gs, PartsOk (qs.map (·.1)) gs ∧ d = .tuple (gs.map partD) ∧ e = [some (.prs p c), some (.dat (.list ((qs.map (·.1)).map .str))), some (.dat (.tuple (qs.map partD))), some (.lst q (fs.map fireD)), some (.dat (.str ws[j])), some (.dat (.str l)), some (.dat (.tuple (ps.map partD)))]) fun d ⟨zs, gs, e1, e2, hgs⟩ => ?_) fun a e ⟨gs, hgs, ea, ee⟩ => ea_nil.imp fun as e' z => ?_
      · have e1 : zs = qs.map (·.1) := by
          have e1 := e1.symm
          injection e1 with e1
          injection e1 with e1
          exact List.map_inj_right (fun a b h => by injection h) |>.mp e1
        subst e1
        exact ⟨gs, hgs, e2, rfl⟩
      · obtain ⟨rfl, rfl⟩ := z
        subst ea ee
        exact ⟨gs, hgs, rfl, rfl⟩
    · subst e1 e2
      refine ⟨by simp, q, _, rfl, ?_, fs ++ [(ws[j], l, ps, gs)], some (.dat (.str ws[j])), some (.dat (.str l)), some (.dat (.tuple (ps.map partD))), by rw [ht, List.map_append, hf]; rfl, fun g hg => ?_, ?_⟩
      · have hfl : fs.length = (ws.take j).length := by rw [← hf, List.length_map]
        rw [List.length_map, hfl, List.length_take]
        omega
      · rcases List.mem_append.mp hg with h | h
        · exact hfo g h
        · simp only [List.mem_singleton] at h
          subst h
          exact ⟨hl, hps, hgs⟩
      · rw [List.map_append, ← hc]
        rfl
  · subst ee
    rw [List.length_map] at hf
    have hf' : fs.map (·.1) = ws := by rw [hf]; exact List.take_length
    refine run_ret (ev_tup (ev_cons (ep_var rfl) fun a e z => ?_) fun ds e (z : ds = [.tuple (qs.map partD), .tuple (fs.map fireD)] ∧ ∃ m, n ≤ m ∧ e[0]? = some (some (.prs p m))) => ?_)
    · obtain ⟨rfl, rfl⟩ := z
      refine ev_cons (ep_tupOwn rfl) fun a e z => ea_nil.imp fun as e' z' => ?_
      obtain ⟨rfl, rfl⟩ := z
      obtain ⟨rfl, rfl⟩ := z'
      exact ⟨rfl, _, by omega, rfl⟩
    · obtain ⟨rfl, z⟩ := z
      refine ⟨by simp, z, qs, fs, rfl, hn, by omega, by omega, hcnt, by rw [hf']; exact hwn, ?_, hfo⟩
      have : fs.length = ws.length := by rw [← hf', List.length_map]
      omega
end
end Nt

set_option Elab.async false
set_option linter.all false
set_option autoImplicit false
set_option maxRecDepth 100000
set_option maxHeartbeats 4000000
/-! The law's own tests: names, wholes, tuples, parts. -/
namespace Nt
open PySem PySem.Spec PyProof.Rows L2 Lw
abbrev sLName : Stmt := topS 30
abbrev sLWhole : Stmt := topS 31
abbrev sLTuple : Stmt := topS 32
abbrev sLAre : Stmt := topS 33
abbrev sLDue : Stmt := topS 34
abbrev sLOdd : Stmt := topS 35
abbrev sLBent : Stmt := topS 36
abbrev sLaw : Stmt := topS 37
/-! ### data of the law's making: its texts from a short list -/
def oddTexts : List Str := ["", "lab1", "abcdefghi", "A", "a b", "place", "as", "9a"]
def texts : List Str := menu ++ oddTexts
def md (m : Nat) : Nat → PyData → Bool
  | _, .none | _, .bool _ => true
  | _, .int i => decide (i.natAbs ≤ 1000000000)
  | _, .str z => texts.contains z
  | 0, .list _ | 0, .tuple _ | 0, .dict _ => false
  | n + 1, .list ds | n + 1, .tuple ds => decide (ds.length ≤ m) && ds.all (md m n)
  | _ + 1, .dict _ => false
def lawName (z : Str) : Bool := !(inV (.str z) (kept.map V.str) || !Txt.isalnum z || decide ((8 : Int) < (z.length : Int))) && (match z.cps.toList with
  | [] => false
  | c :: _ => Txt.isalpha ⟨#[c]⟩ && PyData.eqv (.str z) (.str (Txt.lower z)))
theorem texts_fit : ∀ z ∈ texts, z.length ≤ 100 ∧ SeqAt.shaped (.str (Txt.lower z)) = true ∧ lawName z = nameOk z := by decide +kernel
theorem texts_ok : ∀ z ∈ texts, okS z = true := by decide +kernel
theorem md_str {m n : Nat} {z : Str} (h : md m n (.str z) = true) : z ∈ texts := by
  have h' : texts.contains z = true := by cases n <;> simpa [md] using h
  simpa using h'
theorem md_int {m n : Nat} {i : Int} (h : md m n (.int i) = true) : i.natAbs ≤ 1000000000 := by cases n <;> simpa [md] using h
mutual
theorem md_gd {m : Nat} (hm : m ≤ 1000) : ∀ (n : Nat) (d : PyData), md m n d = true → gd n d = true
  | n, .none, _ => by cases n <;> rfl
  | n, .bool _, _ => by cases n <;> rfl
  | n, .int _, _ => by cases n <;> rfl
  | n, .str z, h => by
    have q := texts_ok z (md_str h)
    cases n <;> simpa [gd] using q
  | 0, .list _, h => by simp [md] at h
  | 0, .tuple _, h => by simp [md] at h
  | 0, .dict _, h => by simp [md] at h
  | n + 1, .dict _, h => by simp [md] at h
  | n + 1, .list ds, h => by
    simp only [md, Bool.and_eq_true, decide_eq_true_eq] at h
    simp only [gd, Bool.and_eq_true, decide_eq_true_eq]
    exact ⟨Nat.le_trans h.1 hm, md_gds hm n ds h.2⟩
  | n + 1, .tuple ds, h => by
    simp only [md, Bool.and_eq_true, decide_eq_true_eq] at h
    simp only [gd, Bool.and_eq_true, decide_eq_true_eq]
    exact ⟨Nat.le_trans h.1 hm, md_gds hm n ds h.2⟩
theorem md_gds {m : Nat} (hm : m ≤ 1000) : ∀ (n : Nat) (ds : List PyData), ds.all (md m n) = true → ds.all (gd n) = true
  | _, [], _ => rfl
  | n, d :: ds, h => by
    simp only [List.all_cons, Bool.and_eq_true] at h ⊢
    exact ⟨md_gd hm n d h.1, md_gds hm n ds h.2⟩
end
mutual
theorem md_up {m m' : Nat} (hm : m ≤ m') : ∀ (n n' : Nat) (d : PyData), n ≤ n' → md m n d = true → md m' n' d = true
  | n, n', .none, _, _ => by cases n' <;> rfl
  | n, n', .bool _, _, _ => by cases n' <;> rfl
  | n, n', .int i, _, h => by
    have q : i.natAbs ≤ 1000000000 := md_int h
    cases n' <;> simpa [md] using q
  | n, n', .str z, _, h => by
    have q : texts.contains z = true := by simpa using md_str h
    cases n' <;> simpa [md] using q
  | 0, _, .list _, _, h => by simp [md] at h
  | 0, _, .tuple _, _, h => by simp [md] at h
  | 0, _, .dict _, _, h => by simp [md] at h
  | n + 1, _, .dict _, _, h => by simp [md] at h
  | n + 1, 0, .list ds, e, h => absurd e (by omega)
  | n + 1, 0, .tuple ds, e, h => absurd e (by omega)
  | n + 1, n' + 1, .list ds, e, h => by
    simp only [md, Bool.and_eq_true, decide_eq_true_eq] at h ⊢
    exact ⟨Nat.le_trans h.1 hm, md_ups hm n n' ds (by omega) h.2⟩
  | n + 1, n' + 1, .tuple ds, e, h => by
    simp only [md, Bool.and_eq_true, decide_eq_true_eq] at h ⊢
    exact ⟨Nat.le_trans h.1 hm, md_ups hm n n' ds (by omega) h.2⟩
theorem md_ups {m m' : Nat} (hm : m ≤ m') : ∀ (n n' : Nat) (ds : List PyData), n ≤ n' → ds.all (md m n) = true → ds.all (md m' n') = true
  | _, _, [], _, _ => rfl
  | n, n', d :: ds, e, h => by
    simp only [List.all_cons, Bool.and_eq_true] at h ⊢
    exact ⟨md_up hm n n' d e h.1, md_ups hm n n' ds e h.2⟩
end
theorem md_tup {m n : Nat} {ds : List PyData} (h : md m n (.tuple ds) = true) : ∃ k, n = k + 1 ∧ ds.length ≤ m ∧ ∀ d ∈ ds, md m k d = true := by
  cases n with
  | zero => simp [md] at h
  | succ k =>
    simp only [md, Bool.and_eq_true, decide_eq_true_eq, List.all_eq_true] at h
    exact ⟨k, rfl, h.1, h.2⟩
theorem md_in {m n : Nat} {ds : List PyData} (h : md m n (.tuple ds) = true) {d : PyData} (hd : d ∈ ds) : md m n d = true := by
  obtain ⟨k, rfl, _, q⟩ := md_tup h
  exact md_up (Nat.le_refl _) _ _ _ (Nat.le_succ _) (q d hd)
abbrev Md : PyData → Prop := fun d => md 100 20 d = true
theorem Md.gd {d : PyData} (h : Md d) : gd 20 d = true := md_gd (by decide) _ _ h
section
variable {P : Program} {w : World} {K : PySem.W.Frag} {mg : Str → Option Value} {base : Heap} {env : Lw.Env} {te ta tb : TE} {d : PyData} {tr : TA}
abbrev Q1 : List PyData → Prop := fun ds => ∃ a, ds = [a] ∧ Md a
/-! ### _law_is_whole -/
theorem scLWhole : FnScope ["_law_what", "_law_low"] ["_law_what", "_law_low"] (defScope sLWhole) := ⟨rfl, rfl, rfl, by decide +kernel, rfl, by decide +kernel, by decide +kernel⟩
abbrev spLWhole (K : PySem.W.Frag) : Sp := spD K (fun ds => ∃ a i, ds = [a, .int i] ∧ Md a) fun ds r => ∃ a i, ds = [a, .int i] ∧ r = .bool (countOk a i)
theorem pw9 : EvP K (tOp (rI CPow fun i j => .int (i ^ j.toNat)) (tC (.int 10)) (tC (.int 9))) env (.int 1000000000) := ep_is (ep_op ep_int ep_int (rd_I ⟨by decide, by decide, by decide⟩)) (congrArg PyData.int (by decide +kernel))
theorem ok_lwhole (D : DefAt K mg "_law_is_whole" sLWhole ["_law_what", "_law_low"]) (B : Bi mg) : Cal P w K mg base 1 "_law_is_whole" (spLWhole K) := by
  refine D.calD scLWhole (fun ds ⟨a, i, e, _⟩ => by rw [e]; rfl) fun f cdv A outer s H E hr => ⟨_, pss_one (ps_ret (pe_and (pe_callB call_isi (by rfl) B.isi PyProof.Rows.boot_isinstance (pa_cons (pv 0) (pa_cons (bt B.int PyProof.Rows.boot_int) pa_nil)))
    (pe_and (pe_not (pe_callB call_isi (by rfl) B.isi PyProof.Rows.boot_isinstance (pa_cons (pv 0) (pa_cons (bt B.bool PyProof.Rows.boot_bool) pa_nil))))
    (pe_and (pe_cmpR op_ge (pv 0) (pv 1) (nomark _)) (pe_one (pe_cmpR op_lt (pv 0) (pe_op op_pow pe_int pe_int) (nomark _))))))), ?_⟩
  rintro ds ⟨a, i, rfl, ha⟩
  have nd := gd_nd ha.gd
  by_cases h : ∃ n, a = .int n
  · obtain ⟨n, rfl⟩ := h
    refine run_retP (ep_andV (isi_int (ep_var rfl) nd) fun _ => ep_andV (ep_notV (isi_bool (ep_var rfl) nd)) fun _ => ep_andV (ep_op (ep_var rfl) (ep_var rfl) rd_IB) fun _ => ep_op (ep_var rfl) pw9 rd_IB) ⟨_, _, rfl, ?_⟩
    refine congrArg PyData.bool ?_
    show (true && (!false && (decide _ && decide _))) = (decide _ && decide _)
    simp only [Bool.true_and, Bool.not_false]
    congr 1
    simp only [decide_eq_decide]
    omega
  · by_cases hb : isIntB a = true
    · refine run_retP (ep_andV (isi_int (ep_var rfl) nd) fun _ => ep_and0 (ep_is (ep_notV (isi_bool (ep_var rfl) nd)) (b := .bool false) (by
        cases a <;> first | rfl | exact absurd ⟨_, rfl⟩ h | cases hb))) ⟨_, _, rfl, ?_⟩
      cases a <;> first | rfl | exact absurd ⟨_, rfl⟩ h | cases hb
    · refine run_retP (ep_and0 (ep_is (isi_int (ep_var rfl) nd) (by rw [Bool.eq_false_iff.mpr hb]))) ⟨_, _, rfl, ?_⟩
      cases a <;> first | rfl | exact absurd rfl hb
/-! ### _law_is_tuple -/
theorem scLTuple : FnScope ["_law_what", "_law_size"] ["_law_what", "_law_size"] (defScope sLTuple) := ⟨rfl, rfl, rfl, by decide +kernel, rfl, by decide +kernel, by decide +kernel⟩
abbrev spLTuple (K : PySem.W.Frag) : Sp := spD K (fun ds => ∃ a i, ds = [a, .int i] ∧ Md a) fun ds r => ∃ a i, ds = [a, .int i] ∧ r = .bool (isTupleOf a i)
theorem ok_ltuple (D : DefAt K mg "_law_is_tuple" sLTuple ["_law_what", "_law_size"]) (B : Bi mg) : Cal P w K mg base 1 "_law_is_tuple" (spLTuple K) := by
  refine D.calD scLTuple (fun ds ⟨a, i, e, _⟩ => by rw [e]; rfl) fun f cdv A outer s H E hr => ⟨_, pss_one (ps_ret (pe_and (pe_callB call_isi (by rfl) B.isi PyProof.Rows.boot_isinstance (pa_cons (pv 0) (pa_cons (bt B.tup PyProof.Rows.boot_tuple) pa_nil)))
    (pe_one (pe_cmpR op_eq (pe_callB call_len (by rfl) B.len PySem.boot_len (pa_cons (pv 0) pa_nil)) (pv 1) (nomark _))))), ?_⟩
  rintro ds ⟨a, i, rfl, ha⟩
  have nd := gd_nd ha.gd
  cases ht : isTup a with
  | true =>
    obtain ⟨ds, rfl⟩ : ∃ ds, a = .tuple ds := by cases a <;> first | exact ⟨_, rfl⟩ | cases ht
    exact run_retP (ep_andV (isi_tup (ep_var rfl) nd) fun _ => ep_op (ep_cb (ea_cons (ep_var rfl) ea_nil) (rc_len rfl)) (ep_var rfl) rd_eqI) ⟨_, _, rfl, rfl⟩
  | false =>
    refine run_retP (ep_and0 (ep_is (isi_tup (ep_var rfl) nd) (by rw [ht]))) ⟨_, _, rfl, ?_⟩
    cases a <;> first | rfl | cases ht
/-! ### _law_is_name -/
theorem scLName : FnScope ["_law_what"] ["_law_what"] (defScope sLName) := ⟨rfl, rfl, rfl, by decide +kernel, rfl, by decide +kernel, by decide +kernel⟩
abbrev spLName (K : PySem.W.Frag) : Sp := spD K Q1 fun ds r => ∃ a, ds = [a] ∧ r = .bool (isName a)
theorem ok_lname (D : DefAt K mg "_law_is_name" sLName ["_law_what"]) (B : Bi mg) : Cal P w K mg base 1 "_law_is_name" (spLName K) := by
  refine D.calD scLName (fun ds ⟨a, e, _⟩ => by rw [e]; rfl) fun f cdv A outer s H E hr => ⟨_, pss_cons (ps_if (pw_or (pt_not (pt_val (pe_callB call_isi (by rfl) B.isi PyProof.Rows.boot_isinstance (pa_cons (pv 0) (pa_cons (bt B.str PyProof.Rows.boot_str) pa_nil)))))
      (pw_or (pt_cmpR op_in_seq (pv 0) (pe_tup (pa_cons pe_str (pa_cons pe_str (pa_cons pe_str pa_nil)))) (by with_unfolding_all rfl))
      (pw_or (pt_not (pt_val (pe_m0 F.slot_str_isalnum F.type_str_isalnum mt_isalnum (pv 0))))
      (pw_or1 (pt_cmpR op_gt (pe_callB call_len (by rfl) B.len PySem.boot_len (pa_cons (pv 0) pa_nil)) pe_int (nomark _)))))).pt (pss_one (ps_ret pe_bl)) pss_nil)
    (pss_one (ps_ret (pe_and (pe_m0 F.slot_str_isalpha F.type_str_isalpha mt_isalpha (pe_ix ix_str (pv 0) pe_int (fun _ _ => rfl)))
      (pe_one (pe_cmpR (op_eqD hr.units) (pv 0) (pe_m0 F.slot_str_lower F.type_str_lower mt_lower (pv 0)) (nomark _)))))), ?_⟩
  rintro ds ⟨a, rfl, ha⟩
  have nd := gd_nd ha.gd
  by_cases hs : isStr a = true
  · obtain ⟨z, rfl⟩ : ∃ z, a = .str z := by cases a <;> first | exact ⟨_, rfl⟩ | cases hs
    have hz := md_str ha
    obtain ⟨f1, f2, f3⟩ := texts_fit z hz
    have hlen : lenD (.str z) = some z.length := if_pos (Nat.le_trans f1 (by decide))
    refine run_seq (run_ifP (ept_or (et_is (ept_not (ept_b (isi_str (ep_var rfl) nd))) (show (!isStr (.str z)) = false from rfl)) fun _ =>
      ept_or (ept_test (ep_op (ep_var rfl) (ep_tup (ea_cons ep_str (ea_cons ep_str (ea_cons ep_str ea_nil))) (by simp)) (rd_in (neg := false) (ds := kept.map PyData.str) rfl rfl (by decide +kernel)))) fun _ =>
      ept_or (ept_not (ept_b (ep_m0 (ep_var rfl) (rm_b trivial)))) fun _ =>
      ept_test (ep_op (ep_cb (ea_cons (ep_var rfl) ea_nil) (rc_len hlen)) ep_int rd_IB)) (fun h => ?_) fun h => run_next ?_)
    · refine run_retP ep_bl ⟨_, rfl, ?_⟩
      show PyData.bool false = .bool (nameOk z)
      rw [← f3]
      unfold lawName
      have h' : (inV (.str z) (kept.map V.str) || (!Txt.isalnum z || decide ((8 : Int) < (z.length : Int)))) = true := h
      rw [← Bool.or_assoc] at h'
      rw [h']
      rfl
    · have h' : (inV (.str z) (kept.map V.str) || (!Txt.isalnum z || decide ((8 : Int) < (z.length : Int)))) = false := h
      rw [← Bool.or_assoc] at h'
      obtain ⟨c, cs, hc⟩ : ∃ c cs, z.cps.toList = c :: cs := by
        cases e : z.cps.toList with
        | nil =>
          have : z = "" := by
            have e2 : z.cps = #[] := by rw [← Array.toArray_toList (xs := z.cps), e]
            cases z
            exact congrArg Str.mk e2
          subst this
          exact absurd h' (by decide +kernel)
        | cons c cs => exact ⟨c, cs, rfl⟩
      refine run_retP (ep_andV (ep_m0 (ep_op (ep_var rfl) ep_int (rd_ixS (Nat.le_trans f1 (by decide)) (show atI z.cps.toList 0 = some c by rw [hc]; exact atI_nat (j := 0) rfl))) (rm_b trivial)) fun _ => ep_op (ep_var rfl) (ep_m0 (ep_var rfl) (rm_s (Nat.le_trans f1 (by decide)))) (rd_eqD (gd_shaped ha.gd (by decide)) f2)) ⟨_, rfl, ?_⟩
      show PyData.bool _ = .bool (nameOk z)
      rw [← f3]
      unfold lawName
      rw [h', hc]
      rfl
  · have hs' : isStr a = false := by simpa using hs
    refine run_seq (run_ifP (ept_or1 (et_is (ept_not (ept_b (isi_str (ep_var rfl) nd))) (show (!isStr a) = true by rw [hs']; rfl))) (fun h => run_retP ep_bl ⟨_, rfl, ?_⟩) fun h => by cases h)
    cases a <;> first | rfl | cases hs'
end
end Nt

set_option Elab.async false
set_option linter.all false
set_option autoImplicit false
set_option maxRecDepth 100000
set_option maxHeartbeats 4000000
/-! The law's own tests: parts. -/
namespace Nt
open PySem PySem.Spec PyProof.Rows L2 Lw
section
variable {P : Program} {w : World} {K : PySem.W.Frag} {mg : Str → Option Value} {base : Heap} {env : Lw.Env} {te ta tb : TE} {d : PyData} {tr : TA}
theorem m1 {E0 : XK} {x : PyData} (h : EvPA K tr env [x]) (hx : Md x) : EvP K (tCall (spLName K) [] E0 tr) env (.bool (isName x)) := ep_callD h ⟨x, rfl, hx⟩ fun d ⟨a, e, ed⟩ => by
  cases e
  exact ed
theorem m2 {E0 : XK} {x : PyData} {i : Int} (h : EvPA K tr env [x, .int i]) (hx : Md x) : EvP K (tCall (spLTuple K) [] E0 tr) env (.bool (isTupleOf x i)) := ep_callD h ⟨x, i, rfl, hx⟩ fun d ⟨a, j, e, ed⟩ => by
  cases e
  exact ed
theorem m3 {E0 : XK} {x : PyData} {i : Int} (h : EvPA K tr env [x, .int i]) (hx : Md x) : EvP K (tCall (spLWhole K) [] E0 tr) env (.bool (countOk x i)) := ep_callD h ⟨x, i, rfl, hx⟩ fun d ⟨a, j, e, ed⟩ => by
  cases e
  exact ed
/-! ### _law_are_parts -/
abbrev nLAre : List Str := ["_law_what", "_law_good", "_law_part"]
theorem scLAre : FnScope nLAre ["_law_what"] (defScope sLAre) := ⟨rfl, rfl, rfl, by decide +kernel, rfl, by decide +kernel, by decide +kernel⟩
abbrev spLAre (K : PySem.W.Frag) : Sp := spD K Q1 fun ds r => ∃ a, ds = [a] ∧ r = .bool (isParts a)
theorem filter_all {α : Type} (f : α → Bool) : ∀ ds : List α, decide (((ds.filter f).length : Int) = (ds.length : Int)) = ds.all f
  | [] => rfl
  | d :: ds => by
    have ih := filter_all f ds
    have hl := List.length_filter_le f ds
    cases hf : f d with
    | true =>
      rw [List.filter_cons, if_pos hf, List.all_cons, hf, Bool.true_and, ← ih, List.length_cons, List.length_cons]
      simp only [decide_eq_decide]
      omega
    | false =>
      rw [List.filter_cons, if_neg (by rw [hf]; decide), List.all_cons, hf, Bool.false_and, List.length_cons]
      exact decide_eq_false (by omega)
theorem ok_lare (D : DefAt K mg "_law_are_parts" sLAre ["_law_what"]) (B : Bi mg) (cT : Cal P w K mg base 1 "_law_is_tuple" (spLTuple K)) (cN : Cal P w K mg base 1 "_law_is_name" (spLName K)) (cW : Cal P w K mg base 1 "_law_is_whole" (spLWhole K)) : Cal P w K mg base 2 "_law_are_parts" (spLAre K) := by
  refine D.calD scLAre (fun ds ⟨a, e, _⟩ => by rw [e]; rfl) fun f cdv A outer s H E hr => ⟨_, pss_cons (ps_if (pt_not (pt_val (pe_callB call_isi (by rfl) B.isi PyProof.Rows.boot_isinstance (pa_cons (pv 0) (pa_cons (bt B.tup PyProof.Rows.boot_tuple) pa_nil))))) (pss_one (ps_ret pe_bl)) pss_nil)
    (pss_cons (ps_setLc (own := [("_law_part", 2)]) (i := 1) (g := gName 2) rfl scLAre.nd rfl rfl (by rfl) (pi_tup (pv 0)) (blkOk_by (own := [("_law_part", 2)]) (N := nLAre) (sc := defScope sLAre) (by decide +kernel)) (fun _ _ _ _ _ => pg_name (i := 2) scLAre.nd rfl (Or.inl rfl))
        (fun _ _ _ _ _ => pts_one (pw_and (pt_val (pe_d cT hr (by decide) (by rfl) (pa_cons (pv 2) (pa_cons pe_int pa_nil)))) (pw_and (pt_val (pe_d cN hr (by decide) (by rfl) (pa_cons (pe_ix (ixT (K := K)) (pv 2) pe_int (fun _ _ => rfl)) pa_nil))) (pw_and1 (pt_val (pe_d cW hr (by decide) (by rfl) (pa_cons (pe_ix (ixT (K := K)) (pv 2) pe_int (fun _ _ => rfl)) (pa_cons pe_int pa_nil))))))).pt) (fun _ _ _ _ _ => pv 2))
    (pss_one (ps_ret (pe_cmpR op_eq (pe_callB call_len (by rfl) B.len PySem.boot_len (pa_cons (pv 1) pa_nil)) (pe_callB call_len (by rfl) B.len PySem.boot_len (pa_cons (pv 0) pa_nil)) (nomark _))))), ?_⟩
  rintro ds ⟨a, rfl, ha⟩
  have nd := gd_nd ha.gd
  cases ht : isTup a with
  | false =>
    refine run_seq (run_ifP (et_is (ept_not (ept_b (isi_tup (ep_var rfl) nd))) (show (!isTup a) = true by rw [ht]; rfl)) (fun h => run_retP ep_bl ⟨_, rfl, ?_⟩) fun h => by cases h)
    cases a <;> first | rfl | cases ht
  | true =>
    obtain ⟨ds, rfl⟩ : ∃ ds, a = .tuple ds := by cases a <;> first | exact ⟨_, rfl⟩ | cases ht
    refine run_seq (run_ifP (et_is (ept_not (ept_b (isi_tup (ep_var rfl) nd))) (show (!isTup (.tuple ds)) = false from rfl)) (fun h => by cases h) fun _ => run_next ?_)
    refine run_seq (run_setP (ep_lc (vs := [2]) (ew_tup (ep_var rfl)) rfl (Nat.le_trans (gd_len ha.gd) (by decide)) (own_name (by simp)) (fun d => isCounted d 1) (fun d => d) fun d hd => tgt_name ⟨rfl, ?_, fun _ => ep_var rfl⟩) ?_)
    · have hdm : Md d := md_in ha hd
      cases hi : isTupleOf d 2 with
      | false =>
        refine et_is (ept_and0 (et_is (ept_b (m2 (ea_cons (ep_var rfl) (ea_cons ep_int ea_nil)) hdm)) hi)) ?_
        unfold isCounted
        split
        · cases hi
        · rfl
      | true =>
        obtain ⟨xs, rfl, hl⟩ := isTupleOf_tup hi
        obtain ⟨x, y, rfl⟩ := two_of hl
        have hx : Md x := md_in hdm (by simp)
        have hy : Md y := md_in hdm (by simp)
        refine et_is (ept_and (ept_b (m2 (ea_cons (ep_var rfl) (ea_cons ep_int ea_nil)) hdm)) fun _ => ept_and (ept_b (m1 (ea_cons (ep_op (ep_var rfl) ep_int (rd_ixT (i := 0) (c := x) (atI_nat (j := 0) rfl))) ea_nil) hx)) fun _ => ept_b (m3 (ea_cons (ep_op (ep_var rfl) ep_int (rd_ixT (i := 1) (c := y) (atI_nat (j := 1) rfl))) (ea_cons ep_int ea_nil)) hy)) ?_
        rw [hi]
        rfl
    · refine run_retP (ep_op (ep_cb (ea_cons (ep_var rfl) ea_nil) (rc_len rfl)) (ep_cb (ea_cons (ep_var rfl) ea_nil) (rc_len rfl)) rd_eqI) ⟨_, rfl, ?_⟩
      rw [List.map_id', filter_all]
      rfl
end
end Nt

set_option Elab.async false
set_option linter.all false
set_option autoImplicit false
set_option maxRecDepth 100000
set_option maxHeartbeats 4000000
/-! The law's own looking at a net, beside netWrong: by lists alone. -/
namespace Nt
open PySem PySem.Spec PyProof.Rows L2 Lw
/-! ### the place of a name -/
def ix (z : Str) : List Str → Nat
  | [] => 0
  | y :: ys => if y = z then 0 else ix z ys + 1
theorem ix_get {z : Str} : ∀ {l : List Str}, z ∈ l → l[ix z l]? = some z
  | y :: ys, h => by
    unfold ix
    split
    · rename_i e
      subst e
      rfl
    · rename_i e
      rw [List.getElem?_cons_succ]
      exact ix_get ((List.mem_cons.mp h).resolve_left fun e' => e e'.symm)
theorem ix_first {z y : Str} : ∀ {l : List Str} {m : Nat}, m < ix z l → l[m]? = some y → y ≠ z
  | x :: xs, m, h, e => by
    unfold ix at h
    split at h
    · exact absurd h (Nat.not_lt_zero _)
    · rename_i hx
      cases m with
      | zero =>
        cases e
        exact hx
      | succ m => exact ix_first (l := xs) (m := m) (by omega) (by simpa using e)
theorem pairsD_cons (k0 : Int) (p : PyData) (ps : List PyData) : pairsD k0 (p :: ps) = .tuple [.int k0, p] :: pairsD (k0 + 1) ps := by
  unfold pairsD
  rw [List.mapIdx_cons]
  congr 1
  · simp
  · congr 1
    funext i d
    rw [show k0 + ((i + 1 : Nat) : Int) = k0 + 1 + (i : Int) by omega]
theorem num_all : ∀ (ps : List PyData) (k0 : Int) (acc : List (Key × V)) (z : Str), (ps.map nameD).Nodup →
    valV ((pairsD k0 ps).foldl (fun acc d => putK acc (keyD d) (toV (itemD d 0))) acc) (.inr z : Key) = if z ∈ ps.map nameD then some (.int (k0 + (ix z (ps.map nameD) : Int))) else valV acc (.inr z : Key)
  | [], _, _, z, _ => by simp [pairsD]
  | p :: ps, k0, acc, z, h => by
    rw [pairsD_cons, List.foldl_cons, num_all ps (k0 + 1) _ z (List.nodup_cons.mp h).2]
    have hp : nameD p ∉ ps.map nameD := (List.nodup_cons.mp h).1
    rw [show keyD (.tuple [.int k0, p]) = (.inr (nameD p) : Key) from rfl, show toV (itemD (.tuple [.int k0, p]) 0) = V.int k0 from rfl, List.map_cons]
    by_cases hz : z ∈ ps.map nameD
    · have hne : nameD p ≠ z := fun e => hp (e ▸ hz)
      rw [if_pos hz, if_pos (List.mem_cons_of_mem _ hz)]
      have hx : ix z (nameD p :: ps.map nameD) = ix z (ps.map nameD) + 1 := if_neg hne
      rw [hx]
      congr 2
      omega
    · rw [if_neg hz, valV_put]
      by_cases hq : nameD p = z
      · subst hq
        rw [if_pos rfl, if_pos List.mem_cons_self]
        unfold ix
        rw [if_pos rfl]
        simp
      · rw [if_neg (fun e => hq (by injection e with e; exact e.symm)), if_neg fun e => by
          rcases List.mem_cons.mp e with e | e
          · exact hq e.symm
          · exact hz e]
def numL (nms : List Str) (z : Str) : Option Int := if z ∈ nms then some (ix z nms : Int) else none
theorem num_is {ps : List PyData} (h : (ps.map nameD).Nodup) (z : Str) : numOf (numKv ps) z = numL (ps.map nameD) z := by
  unfold numOf numKv dictOfD numL
  rw [num_all ps 0 [] z h]
  by_cases hz : z ∈ ps.map nameD
  · rw [if_pos hz, if_pos hz]
    simp
  · rw [if_neg hz, if_neg hz]
    rfl
/-! ### the first bad part, takes and gives in one list -/
def lastOf (nms : List Str) : Option Str → Int
  | none => -1
  | some q => (ix q nms : Int)
def badNext (nms : List Str) (prev : Option Str) (p : PyData) : Bool := match numL nms (nameD p) with
  | none => true
  | some n => decide (n ≤ lastOf nms prev)
def fb (nms : List Str) (lenT : Int) : Option Str → Int → List PyData → Option Int
  | _, _, [] => none
  | prev, i, p :: ps => if badNext nms (if i = lenT then none else prev) p = true then some i else fb nms lenT (some (nameD p)) (i + 1) ps
theorem badIn_cons (nms : List Str) (i : Int) (prev : Option Str) (p : PyData) (ps : List PyData) :
    badIn (numL nms) i (lastOf nms prev) (p :: ps) = if badNext nms prev p = true then .inl i else badIn (numL nms) (i + 1) (lastOf nms (some (nameD p))) ps := by
  unfold badNext
  rw [badIn]
  cases h : numL nms (nameD p) with
  | none => rfl
  | some n =>
    have hn : lastOf nms (some (nameD p)) = n := by
      unfold numL at h
      split at h
      · cases h
        rfl
      · cases h
    rw [hn]
    show (if n ≤ lastOf nms prev then _ else _) = if decide (n ≤ lastOf nms prev) = true then _ else _
    simp only [decide_eq_true_eq]
theorem fb_one (nms : List Str) (lenT : Int) : ∀ (ps : List PyData) (prev : Option Str) (i : Int), lenT < i →
    fb nms lenT prev i ps = match badIn (numL nms) i (lastOf nms prev) ps with | .inl j => some j | .inr _ => none
  | [], prev, i, _ => rfl
  | p :: ps, prev, i, h => by
    rw [fb, if_neg (by omega : ¬ i = lenT), badIn_cons, fb_one nms lenT ps _ (i + 1) (by omega)]
    split <;> rfl
theorem fb_two (nms : List Str) (lenT : Int) (ps : List PyData) (prev : Option Str) :
    fb nms lenT prev lenT ps = match badIn (numL nms) lenT (-1) ps with | .inl j => some j | .inr _ => none := by
  cases ps with
  | nil => rfl
  | cons p ps =>
    have e := badIn_cons nms lenT none p ps
    rw [show lastOf nms none = -1 from rfl] at e
    rw [fb, if_pos rfl, e, fb_one nms lenT ps _ (lenT + 1) (by omega)]
    split <;> rfl
theorem fb_both (nms : List Str) (lenT : Int) (gs : List PyData) : ∀ (ts : List PyData) (prev : Option Str) (i : Int), i + ts.length = lenT →
    fb nms lenT prev i (ts ++ gs) = match badIn (numL nms) i (lastOf nms prev) ts with
      | .inl j => some j
      | .inr j => match badIn (numL nms) j (-1) gs with | .inl j => some j | .inr _ => none
  | [], prev, i, h => by
    have e : i = lenT := by simpa using h
    subst e
    rw [List.nil_append, fb_two]
    rfl
  | t :: ts, prev, i, h => by
    rw [List.length_cons] at h
    rw [List.cons_append, fb, if_neg (by omega : ¬ i = lenT), badIn_cons, fb_both nms lenT gs ts _ (i + 1) (by omega)]
    split <;> rfl
def intOrNone : Option Int → PyData
  | some j => .int j
  | none => .none
theorem badPart_is (nms : List Str) (a b : PyData) (ts gs : List PyData) : badPart (numL nms) (.tuple [a, b, .tuple ts, .tuple gs]) = intOrNone (fb nms (ts.length : Int) none 0 (ts ++ gs)) := by
  rw [fb_both nms _ gs ts none 0 (by omega)]
  show badAll (numL nms) 0 [ts, gs] = _
  rw [badAll, show lastOf nms none = -1 from rfl]
  cases h : badIn (numL nms) 0 (-1) ts with
  | inl j => rfl
  | inr j =>
    show badAll (numL nms) j [gs] = intOrNone (match badIn (numL nms) j (-1) gs with | .inl j => some j | .inr _ => none)
    rw [badAll]
    cases h2 : badIn (numL nms) j (-1) gs with
    | inl j => rfl
    | inr j => rfl
end Nt

set_option Elab.async false
set_option linter.all false
set_option autoImplicit false
set_option maxRecDepth 100000
set_option maxHeartbeats 8000000
/-! The law's own looking at a net. -/
namespace Nt
open PySem PySem.Spec PyProof.Rows L2 Lw
section
variable {P : Program} {w : World} {K : PySem.W.Frag} {mg : Str → Option Value} {base : Heap} {env : Lw.Env} {te ta tb : TE} {d : PyData} {tr : TA}
theorem inV_strs (z : Str) : ∀ ks : List Str, inV (.str z) ((ks.map PyData.str).map toV) = ks.contains z := fun ks => by
  rw [← inV_str z ks, List.map_map]
  rfl
theorem flat_strs : ∀ zs : List Str, (zs.map PyData.str).all flatD = true
  | [] => rfl
  | _ :: zs => by rw [List.map_cons, List.all_cons, flat_strs zs]; rfl
/-- x in a list of texts of one's own, in a list of texts -/
theorem ep_inOwn {i : Nat} {q : Addr} {zs : List Str} {z : Str} (ha : EvP K ta env (.str z)) (h : env[i]? = some (some (.lst q (zs.map .str)))) : EvP K (tOp (rIn K false) ta (tVar i)) env (.bool (zs.contains z)) :=
  ep_is (ep_inL (neg := false) ha rfl h (flat_strs zs)) (congrArg PyData.bool (inV_strs z zs))
theorem ep_inStrs {zs : List Str} {z : Str} (ha : EvP K ta env (.str z)) (h : EvP K tb env (.list (zs.map .str))) : EvP K (tOp (rIn K false) ta tb) env (.bool (zs.contains z)) :=
  ep_is (ep_op ha h (rd_in (neg := false) rfl rfl (flat_strs zs))) (congrArg PyData.bool (inV_strs z zs))
theorem ep_ninStrs {zs : List Str} {z : Str} (ha : EvP K ta env (.str z)) (h : EvP K tb env (.list (zs.map .str))) : EvP K (tOp (rIn K true) ta tb) env (.bool (!zs.contains z)) :=
  ep_is (ep_op ha h (rd_in (neg := true) rfl rfl (flat_strs zs))) (congrArg (fun b => PyData.bool (!b)) (inV_strs z zs))
/-- xs.index(x), texts -/
theorem ep_index {zs : List Str} {z : Str} (h : EvP K te env (.list (zs.map .str))) (ha : EvP K ta env (.str z)) (hz : z ∈ zs) : EvP K (tBM K "list" (rIndex K) te (tCons ta tNil)) env (.int (ix z zs : Nat)) := fun F I0 I σ H E Q q =>
  h F I0 I σ H E _ fun v I1 H1 d e E1 x1 hd ⟨e1, e2⟩ => by
    subst e1 e2
    obtain ⟨a, xs, rfl, hs, hds⟩ := dp_lst hd
    refine ⟨.inl ⟨rfl, xs, .inl (.inl (E1.ih _ _ hs))⟩, ha F I0 I1 σ H1 E1 _ fun y I2 H2 d e E2 x2 hy ⟨e1, e2⟩ => ?_⟩
    subst e1 e2
    obtain rfl := dp_str hy
    have ex : xs = zs.map V.str := by
      have := (dpA_flat hds (flat_strs zs)).1
      rw [this, List.map_map]
      rfl
    subst ex
    refine ⟨a, zs.map V.str, .str z, ix z zs, .str z, rfl, rfl, .inl (.inl (E2.ih _ _ (x2 _ _ hs))), rfl, by simp [flatV], by rw [List.getElem?_map, ix_get hz]; rfl, beq_self_eq_true z, fun m z' hm hz' => ?_, q _ I2 H2 _ _ E2 (x1.trans x2) (.int _) ⟨rfl, rfl⟩⟩
    rw [List.getElem?_map] at hz'
    cases hy : zs[m]? with
    | none => rw [hy] at hz'; cases hz'
    | some y =>
      rw [hy] at hz'
      cases hz'
      exact beq_eq_false_iff_ne.mpr (ix_first hm hy)
/-! ### the names ahead -/
def prevN (names : List Str) (i : Nat) : Option Str := if i = 0 then none else names[i - 1]?
theorem ahead_is (names : List Str) (i lenT : Nat) (hi : i ≤ names.length) :
    ((if (i : Int) = (lenT : Int) then none else prevN names i) = none ∧ (names.take i).drop (if lenT ≤ i then lenT else 0) = []) ∨
    ∃ q init, (if (i : Int) = (lenT : Int) then none else prevN names i) = some q ∧ (names.take i).drop (if lenT ≤ i then lenT else 0) = init ++ [q] ∧ q ∈ names.take i := by
  by_cases h : i = lenT
  · subst h
    exact .inl ⟨if_pos rfl, by simp⟩
  · rw [if_neg (by omega : ¬ (i : Int) = (lenT : Int))]
    cases i with
    | zero => exact .inl ⟨rfl, by simp⟩
    | succ m =>
      have hm : m < names.length := by omega
      have ht : names.take (m + 1) = names.take m ++ [names[m]] := by rw [List.take_add_one, List.getElem?_eq_getElem hm]; rfl
      refine .inr ⟨names[m], (names.take m).drop (if lenT ≤ m + 1 then lenT else 0), ?_, ?_, ?_⟩
      · show names[m]? = _
        rw [List.getElem?_eq_getElem hm]
      · rw [ht, List.drop_append_of_le_length (by
          rw [List.length_take]
          split <;> omega)]
      · rw [ht]
        exact List.mem_append_right _ List.mem_cons_self
theorem cut_take (ds : List PyData) (i : Nat) (h : i ≤ ds.length) : Lw.cutD ds none (some (i : Int)) = ds.take i := by
  unfold Lw.cutD
  rw [HT.sIx_nat, HT.sIx_none]
  simp [Nat.min_eq_left h]
theorem cut_drop (ds : List PyData) (c : Nat) (h : c ≤ ds.length) : Lw.cutD ds (some (c : Int)) none = ds.drop c := by
  unfold Lw.cutD
  rw [HT.sIx_nat, HT.sIx_none, Nat.min_eq_left h]
  exact List.take_of_length_le (by rw [List.length_drop]; omega)
/-! ### what netWrong tells, by its pieces -/
theorem due_place {ps fs : List PyData} {k : Nat} (h : placesWrong 0 [] ps = .tuple [.str "place", .int k]) : netWrong (.tuple [.tuple ps, .tuple fs]) = .tuple [.str "place", .int k] := by
  have hp : ps.isEmpty = false := by
    cases ps with
    | nil => cases h
    | cons _ _ => rfl
  show (if ps.isEmpty = true then oneD "net" else netWrong2 ps fs) = _
  rw [if_neg (by rw [hp]; decide)]
  unfold netWrong2
  rw [h]
  rfl
theorem due_firing {ps fs : List PyData} {r : PyData} (hp : ps.isEmpty = false) (h : placesWrong 0 [] ps = .none) (h2 : firingsWrong (numOf (numKv ps)) 0 [] fs = r) (hr : isNoneD r = false) : netWrong (.tuple [.tuple ps, .tuple fs]) = r := by
  show (if ps.isEmpty = true then oneD "net" else netWrong2 ps fs) = _
  rw [if_neg (by rw [hp]; decide)]
  unfold netWrong2
  rw [h, h2]
  show (if (isNoneD r && _) = true then oneD "great" else r) = r
  rw [hr, Bool.false_and]
  rfl
theorem label_is (l : PyData) : (!isName l && !(isStr l && PyData.eqv l (.str ""))) = !isLabel l := by
  have : (isStr l && PyData.eqv l (.str "")) = PyData.eqv l (.str "") := by cases l <;> first | rfl | exact Bool.true_and _
  rw [this]
  unfold isLabel
  cases isName l <;> cases PyData.eqv l (.str "") <;> rfl
theorem due_great {ps fs : List PyData} (hp : ps.isEmpty = false) (h : placesWrong 0 [] ps = .none) (h2 : firingsWrong (numOf (numKv ps)) 0 [] fs = .none) : netWrong (.tuple [.tuple ps, .tuple fs]) = if (decide (40 < (ps.length : Int)) || decide (60 < (fs.length : Int))) = true then oneD "great" else .none := by
  show (if ps.isEmpty = true then oneD "net" else netWrong2 ps fs) = _
  rw [if_neg (by rw [hp]; decide)]
  unfold netWrong2
  rw [h, h2]
  rfl
theorem m4 {E0 : XK} {x : PyData} (h : EvPA K tr env [x]) (hx : Md x) : EvP K (tCall (spLAre K) [] E0 tr) env (.bool (isParts x)) := ep_callD h ⟨x, rfl, hx⟩ fun d ⟨a, e, ed⟩ => by
  cases e
  exact ed
abbrev nLDue : List Str := ["_law_what", "_law_names_here", "_law_k", "_law_place", "_law_known", "_law_firing", "_law_both", "_law_j", "_law_ahead", "_law_part"]
theorem scLDue : FnScope nLDue ["_law_what"] (defScope sLDue) := ⟨rfl, rfl, rfl, by decide +kernel, rfl, by decide +kernel, by decide +kernel⟩
abbrev spLDue (K : PySem.W.Frag) : Sp := spD K Q1 fun ds r => ∃ a, ds = [a] ∧ r = netWrong a
theorem ok_ldue (D : DefAt K mg "_law_due" sLDue ["_law_what"]) (B : Bi mg) (cT : Cal P w K mg base 1 "_law_is_tuple" (spLTuple K)) (cN : Cal P w K mg base 1 "_law_is_name" (spLName K)) (cW : Cal P w K mg base 1 "_law_is_whole" (spLWhole K)) (cA : Cal P w K mg base 2 "_law_are_parts" (spLAre K)) : Cal P w K mg base 3 "_law_due" (spLDue K) := by
  refine D.calD scLDue (fun ds ⟨a, e, _⟩ => by rw [e]; rfl) fun f cdv A outer s H E hr => ⟨_, pss_cons (ps_if (pw_or (pt_not (pt_val (pe_d cT hr (by decide) (by rfl) (pa_cons (pv 0) (pa_cons pe_int pa_nil)))))
      (pw_or (pt_not (pt_val (pe_callB call_isi (by rfl) B.isi PyProof.Rows.boot_isinstance (pa_cons (pe_ix ix_tup (pv 0) pe_int (fun _ _ => rfl)) (pa_cons (bt B.tup PyProof.Rows.boot_tuple) pa_nil)))))
      (pw_or1 (pt_not (pt_val (pe_callB call_isi (by rfl) B.isi PyProof.Rows.boot_isinstance (pa_cons (pe_ix ix_tup (pv 0) pe_int (fun _ _ => rfl)) (pa_cons (bt B.tup PyProof.Rows.boot_tuple) pa_nil)))))))).pt (pss_one (ps_ret (pe_tup (pa_cons pe_str pa_nil)))) pss_nil)
    (pss_cons (ps_if (pt_cmpR (op_eqD hr.units) (pe_ix ix_tup (pv 0) pe_int (fun _ _ => rfl)) (pe_tup pa_nil) (by with_unfolding_all rfl)) (pss_one (ps_ret (pe_tup (pa_cons pe_str pa_nil)))) pss_nil)
    (pss_cons (ps_set (i := 1) scLDue.nd rfl (.inl rfl) (pe_lst pa_nil))
    (pss_cons (ps_for PassesOwn.never rfl (pi_enumT (by rfl) B.enum (pa_cons (pe_ix ix_tup (pv 0) pe_int (fun _ _ => rfl)) pa_nil)) (pg_tup rfl (pgs_cons (pg_name (i := 2) scLDue.nd rfl (.inl rfl)) (pgs_cons (pg_name (i := 3) scLDue.nd rfl (.inl rfl)) pgs_nil)))
      (pss_cons (ps_if (pw_or (pt_not (pt_val (pe_d cT hr (by decide) (by rfl) (pa_cons (pv 3) (pa_cons pe_int pa_nil))))) (pw_or (pt_not (pt_val (pe_d cN hr (by decide) (by rfl) (pa_cons (pe_ix ix_tup (pv 3) pe_int (fun _ _ => rfl)) pa_nil)))) (pw_or1 (pt_not (pt_val (pe_d cW hr (by decide) (by rfl) (pa_cons (pe_ix ix_tup (pv 3) pe_int (fun _ _ => rfl)) (pa_cons pe_int pa_nil)))))))).pt (pss_one (ps_ret (pe_tup (pa_cons pe_str (pa_cons (pv 2) pa_nil))))) pss_nil)
      (pss_cons (ps_if (pt_cmpR op_in_seq (pe_ix ix_tup (pv 3) pe_int (fun _ _ => rfl)) (pv 1) (by with_unfolding_all rfl)) (pss_one (ps_ret (pe_tup (pa_cons pe_str (pa_cons (pv 2) pa_nil))))) pss_nil)
      (pss_one (ps_expr (pe_bm PySem.F.plainAttrs_list PySem.F.slot_list_append PySem.F.type_list_append mt_append (pv 1) (pa_cons (pe_ix ix_tup (pv 3) pe_int (fun _ _ => rfl)) pa_nil)))))))
    (pss_cons (ps_set (i := 4) scLDue.nd rfl (.inl rfl) (pe_lst pa_nil))
    (pss_cons (ps_for PassesOwn.never rfl (pi_enumT (by rfl) B.enum (pa_cons (pe_ix ix_tup (pv 0) pe_int (fun _ _ => rfl)) pa_nil)) (pg_tup rfl (pgs_cons (pg_name (i := 2) scLDue.nd rfl (.inl rfl)) (pgs_cons (pg_name (i := 5) scLDue.nd rfl (.inl rfl)) pgs_nil)))
      (pss_cons (ps_if (pw_or (pt_not (pt_val (pe_d cT hr (by decide) (by rfl) (pa_cons (pv 5) (pa_cons pe_int pa_nil))))) (pw_or (pt_not (pt_val (pe_d cN hr (by decide) (by rfl) (pa_cons (pe_ix ix_tup (pv 5) pe_int (fun _ _ => rfl)) pa_nil)))) (pw_or1 (pt_cmpR op_in_seq (pe_ix ix_tup (pv 5) pe_int (fun _ _ => rfl)) (pv 4) (by with_unfolding_all rfl))))).pt (pss_one (ps_ret (pe_tup (pa_cons pe_str (pa_cons (pv 2) pa_nil))))) pss_nil)
      (pss_cons (ps_if (pw_and (pt_not (pt_val (pe_d cN hr (by decide) (by rfl) (pa_cons (pe_ix ix_tup (pv 5) pe_int (fun _ _ => rfl)) pa_nil)))) (pw_and1 (pt_not (pw_and (pt_val (pe_callB call_isi (by rfl) B.isi PyProof.Rows.boot_isinstance (pa_cons (pe_ix ix_tup (pv 5) pe_int (fun _ _ => rfl)) (pa_cons (bt B.str PyProof.Rows.boot_str) pa_nil)))) (pw_and1 (pt_cmpR (op_eqD hr.units) (pe_ix ix_tup (pv 5) pe_int (fun _ _ => rfl)) pe_str (nomark _)))).pt))).pt (pss_one (ps_ret (pe_tup (pa_cons pe_str (pa_cons (pv 2) pa_nil))))) pss_nil)
      (pss_cons (ps_if (pw_or (pt_not (pt_val (pe_d cA hr (by decide) (by rfl) (pa_cons (pe_ix ix_tup (pv 5) pe_int (fun _ _ => rfl)) pa_nil)))) (pw_or1 (pt_not (pt_val (pe_d cA hr (by decide) (by rfl) (pa_cons (pe_ix ix_tup (pv 5) pe_int (fun _ _ => rfl)) pa_nil)))))).pt (pss_one (ps_ret (pe_tup (pa_cons pe_str (pa_cons (pv 2) pa_nil))))) pss_nil)
      (pss_cons (ps_expr (pe_bm PySem.F.plainAttrs_list PySem.F.slot_list_append PySem.F.type_list_append mt_append (pv 4) (pa_cons (pe_ix ix_tup (pv 5) pe_int (fun _ _ => rfl)) pa_nil)))
      (pss_cons (ps_set (i := 6) scLDue.nd rfl (.inl rfl) (pe_op op_catA (pe_ix ix_tup (pv 5) pe_int (fun _ _ => rfl)) (pe_ix ix_tup (pv 5) pe_int (fun _ _ => rfl))))
      (pss_one (ps_for PassesOwn.never rfl (pi_range1 (by rfl) B.range (pa_cons (pe_callB call_len (by rfl) B.len PySem.boot_len (pa_cons (pv 6) pa_nil)) pa_nil)) (pg_name (i := 7) scLDue.nd rfl (.inl rfl))
        (pss_cons (ps_set (i := 8) scLDue.nd rfl (.inl rfl) (pe_slice sl_list (pe_lc (own := [("_law_part", 9)]) (g := gName 9) (tt := tYes) rfl scLDue.nd (pi_tup (pe_slice sl_tupA (pv 6) po_none (po_some (pv 7)))) (blkOk_by (own := [("_law_part", 9)]) (N := nLDue) (sc := defScope sLDue) (by decide +kernel)) (fun _ _ _ _ _ => pg_name (i := 9) scLDue.nd rfl (Or.inl rfl)) (fun _ _ _ _ _ => pts_nil) (fun _ _ _ _ _ => pe_ix (ixT (K := K)) (pv 9) pe_int (fun _ _ => rfl)))
            (po_some (pe_op op_mulW (pe_callB call_len (by rfl) B.len PySem.boot_len (pa_cons (pe_ix ix_tup (pv 5) pe_int (fun _ _ => rfl)) pa_nil)) (pe_callTy call_int1 (by rfl) B.int PyProof.Rows.boot_int (pa_cons (pe_cmpR op_ge (pv 7) (pe_callB call_len (by rfl) B.len PySem.boot_len (pa_cons (pe_ix ix_tup (pv 5) pe_int (fun _ _ => rfl)) pa_nil)) (nomark _)) pa_nil)))) po_none))
        (pss_cons (ps_if (pt_cmpR op_notIn_seq (pe_ix ix_tup (pe_ix ix_tup (pv 6) (pv 7) (fun _ _ => rfl)) pe_int (fun _ _ => rfl)) (pv 1) (by with_unfolding_all rfl)) (pss_one (ps_ret (pe_tup (pa_cons pe_str (pa_cons (pv 2) (pa_cons (pv 7) pa_nil)))))) pss_nil)
        (pss_one (ps_if (pw_and (pt_cmpR (op_neD hr.units) (pv 8) (pe_lst pa_nil) (by with_unfolding_all rfl)) (pw_and1 (pt_cmpR op_ge (pe_bm PySem.F.plainAttrs_list PySem.F.slot_list_index PySem.F.type_list_index mt_index (pv 1) (pa_cons (pe_ix ix_list (pv 8) (pe_un un_neg pe_int) (fun _ _ => rfl)) pa_nil)) (pe_bm PySem.F.plainAttrs_list PySem.F.slot_list_index PySem.F.type_list_index mt_index (pv 1) (pa_cons (pe_ix ix_tup (pe_ix ix_tup (pv 6) (pv 7) (fun _ _ => rfl)) pe_int (fun _ _ => rfl)) pa_nil)) (by with_unfolding_all rfl)))).pt (pss_one (ps_ret (pe_tup (pa_cons pe_str (pa_cons (pv 2) (pa_cons (pv 7) pa_nil)))))) pss_nil))))))))))))
    (pss_cons (ps_if (pw_or (pt_cmpR op_gt (pe_callB call_len (by rfl) B.len PySem.boot_len (pa_cons (pe_ix ix_tup (pv 0) pe_int (fun _ _ => rfl)) pa_nil)) pe_int (nomark _)) (pw_or1 (pt_cmpR op_gt (pe_callB call_len (by rfl) B.len PySem.boot_len (pa_cons (pe_ix ix_tup (pv 0) pe_int (fun _ _ => rfl)) pa_nil)) pe_int (nomark _)))).pt (pss_one (ps_ret (pe_tup (pa_cons pe_str pa_nil)))) pss_nil)
    (pss_one (ps_ret pe_non)))))))), ?_⟩
  rintro ds ⟨a, rfl, ha⟩
  have nd := gd_nd ha.gd
  -- the form of the whole
  cases hi : isTupleOf a 2 with
  | false =>
    refine run_seq (run_ifP (ept_or1 (et_is (ept_not (ept_b (m2 (ea_cons (ep_var rfl) (ea_cons ep_int ea_nil)) ha))) (show (!isTupleOf a 2) = true by rw [hi]; rfl))) (fun h => run_retP (ep_tup (ea_cons ep_str ea_nil) (by decide)) ⟨_, rfl, ?_⟩) fun h => by cases h)
    unfold netWrong
    split
    · cases hi
    · rfl
  | true =>
  obtain ⟨xs, rfl, hl⟩ := isTupleOf_tup hi
  obtain ⟨x, y, rfl⟩ := two_of hl
  have hx : Md x := md_in ha (by simp)
  have hy : Md y := md_in ha (by simp)
  have v0 : ∀ {env : Lw.Env}, env[0]? = some (some (.dat (.tuple [x, y]))) → EvP K (tOp (rIxT K) (tVar 0) (tC (.int 0))) env x := fun h => ep_op (ep_var h) ep_int (rd_ixT (i := 0) (atI_nat (j := 0) rfl))
  have v1 : ∀ {env : Lw.Env}, env[0]? = some (some (.dat (.tuple [x, y]))) → EvP K (tOp (rIxT K) (tVar 0) (tC (.int 1))) env y := fun h => ep_op (ep_var h) ep_int (rd_ixT (i := 1) (atI_nat (j := 1) rfl))
  by_cases hxy : isTup x = true ∧ isTup y = true
  case neg =>
    refine run_seq (run_ifP (et_is (ept_or (ept_not (ept_b (m2 (ea_cons (ep_var rfl) (ea_cons ep_int ea_nil)) ha))) fun _ => ept_or (ept_not (ept_b (isi_tup (v0 rfl) (gd_nd hx.gd)))) fun _ => ept_not (ept_b (isi_tup (v1 rfl) (gd_nd hy.gd)))) (show _ = true from ?_)) (fun h => run_retP (ep_tup (ea_cons ep_str ea_nil) (by decide)) ⟨_, rfl, ?_⟩) fun h => by cases h)
    · rw [hi]
      cases h1 : isTup x with
      | false => rfl
      | true => cases h2 : isTup y with
        | false => rfl
        | true => exact absurd ⟨h1, h2⟩ hxy
    · unfold netWrong
      split
      · rename_i e
        cases e
        exact absurd ⟨rfl, rfl⟩ hxy
      · rfl
  case pos =>
  obtain ⟨ps, rfl⟩ : ∃ ds, x = .tuple ds := by cases x <;> first | exact ⟨_, rfl⟩ | cases hxy.1
  obtain ⟨fs, rfl⟩ : ∃ ds, y = .tuple ds := by cases y <;> first | exact ⟨_, rfl⟩ | cases hxy.2
  refine run_seq (run_ifP (et_is (ept_or (ept_not (ept_b (m2 (ea_cons (ep_var rfl) (ea_cons ep_int ea_nil)) ha))) fun _ => ept_or (ept_not (ept_b (isi_tup (v0 rfl) (gd_nd hx.gd)))) fun _ => ept_not (ept_b (isi_tup (v1 rfl) (gd_nd hy.gd)))) (show _ = false by rw [hi]; rfl)) (fun h => by cases h) fun _ => run_next ?_)
  refine run_seq (run_ifP (ept_test (ep_op (v0 rfl) (ep_tup ea_nil (by decide)) (rd_eqD (gd_shaped hx.gd (by decide)) rfl))) (fun h => run_retP (ep_tup (ea_cons ep_str ea_nil) (by decide)) ⟨_, rfl, ?_⟩) fun h => run_next ?_)
  · cases ps with
    | nil => rfl
    | cons p ps => cases h
  have hne : ps.isEmpty = false := by
    cases ps with
    | nil => cases h
    | cons p ps => rfl
  -- the places
  obtain ⟨W, hW⟩ : ∃ W, placesWrong 0 [] ps = W := ⟨_, rfl⟩
  refine run_seq (run_newL fun q => ?_)
  refine run_seq (run_for (ew_enumT (ea_cons (v0 rfl) ea_nil)) (fun j e => ∃ x2 x3, e = [some (.dat (.tuple [.tuple ps, .tuple fs])), some (.lst q (((ps.take j).map nameD).map .str)), x2, x3, none, none, none, none, none, none] ∧ placesWrong j ((ps.take j).map nameD).reverse (ps.drop j) = W ∧ ((ps.take j).map nameD).Nodup) ⟨none, none, rfl, hW, List.nodup_nil⟩ ?_ ?_)
  · rintro j d e hd ⟨x2, x3, rfl, hR, hn⟩
    obtain ⟨p, hp, rfl⟩ := pairsD_get hd
    have hj : j < ps.length := (List.getElem?_eq_some_iff.mp hp).1
    have hpm : Md p := md_in hx (List.mem_of_getElem? hp)
    have hpe : ps[j] = p := (List.getElem?_eq_some_iff.mp hp).2
    have ht : ps.take (j + 1) = ps.take j ++ [p] := by rw [List.take_add_one, hp]; rfl
    rw [List.drop_eq_getElem_cons hj, hpe] at hR
    unfold placesWrong at hR
    refine tgt_tup rfl (tgts_cons (tgt_name (tgts_cons (tgt_name (tgts_nil ?_)))))
    cases hc : isCounted p 0 with
    | false =>
      rw [if_pos (by rw [hc]; rfl)] at hR
      have hw := due_place (fs := fs) (hW.trans hR.symm)
      cases hi2 : isTupleOf p 2 with
      | false =>
        refine run_seq (run_ifP (ept_or1 (et_is (ept_not (ept_b (m2 (ea_cons (ep_var rfl) (ea_cons ep_int ea_nil)) hpm))) (show (!isTupleOf p 2) = true by rw [hi2]; rfl))) (fun h => run_retP (ep_tup (ea_cons ep_str (ea_cons (ep_var rfl) ea_nil)) (by simp)) ⟨_, rfl, by rw [hw, Int.zero_add]⟩) fun h => by cases h)
      | true =>
        obtain ⟨xs, rfl, hl⟩ := isTupleOf_tup hi2
        obtain ⟨u, v, rfl⟩ := two_of hl
        refine run_seq (run_ifP (et_is (ept_or (ept_not (ept_b (m2 (ea_cons (ep_var rfl) (ea_cons ep_int ea_nil)) hpm))) fun _ => ept_or (ept_not (ept_b (m1 (ea_cons (ep_op (ep_var rfl) ep_int (rd_ixT (i := 0) (c := u) (atI_nat (j := 0) rfl))) ea_nil) (md_in hpm (by simp))))) fun _ => ept_not (ept_b (m3 (ea_cons (ep_op (ep_var rfl) ep_int (rd_ixT (i := 1) (c := v) (atI_nat (j := 1) rfl))) (ea_cons ep_int ea_nil)) (md_in hpm (by simp))))) (show _ = true from ?_))
          (fun h => run_retP (ep_tup (ea_cons ep_str (ea_cons (ep_var rfl) ea_nil)) (by simp)) ⟨_, rfl, by rw [hw, Int.zero_add]⟩) fun h => by cases h)
        have : (!isCounted (.tuple [u, v]) 0) = true := by rw [hc]; rfl
        rw [← this]
        show (!true || (!isName u || !countOk v 0)) = !(isName u && countOk v 0)
        rw [Bool.not_and]
        rfl
    | true =>
      obtain ⟨z, n, rfl, hz1, hz2, hz3⟩ := counted_form hc
      rw [show nameD (.tuple [.str z, .int n]) = z from rfl] at hR
      have p0 : ∀ {env : Lw.Env}, env[3]? = some (some (.dat (.tuple [.str z, .int n]))) → EvP K (tOp (rIxT K) (tVar 3) (tC (.int 0))) env (.str z) := fun h => ep_op (ep_var h) ep_int (rd_ixT (i := 0) (atI_nat (j := 0) rfl))
      have p1 : ∀ {env : Lw.Env}, env[3]? = some (some (.dat (.tuple [.str z, .int n]))) → EvP K (tOp (rIxT K) (tVar 3) (tC (.int 1))) env (.int n) := fun h => ep_op (ep_var h) ep_int (rd_ixT (i := 1) (atI_nat (j := 1) rfl))
      have g0 : Md (.str z) := md_in hpm (by simp)
      refine run_seq (run_ifP (et_is (ept_or (ept_not (ept_b (m2 (ea_cons (ep_var rfl) (ea_cons ep_int ea_nil)) hpm))) fun _ => ept_or (ept_not (ept_b (m1 (ea_cons (p0 rfl) ea_nil) g0))) fun _ => ept_not (ept_b (m3 (ea_cons (p1 rfl) (ea_cons ep_int ea_nil)) (md_in hpm (by simp))))) (show _ = false from ?_)) (fun h => by cases h) fun _ => run_next ?_)
      · have : (!isCounted (.tuple [.str z, .int n]) 0) = false := by rw [hc]; rfl
        rw [← this]
        show (!true || (!isName (.str z) || !countOk (.int n) 0)) = !(isName (.str z) && countOk (.int n) 0)
        rw [Bool.not_and]
        rfl
      have hcr : ((ps.take j).map nameD).reverse.contains z = ((ps.take j).map nameD).contains z := by
        rw [Bool.eq_iff_iff]
        simp
      rw [hc, hcr] at hR
      refine run_seq (run_ifP (ept_test (ep_inOwn (p0 rfl) rfl)) (fun h => run_retP (ep_tup (ea_cons ep_str (ea_cons (ep_var rfl) ea_nil)) (by simp)) ⟨_, rfl, ?_⟩) fun h => run_next ?_)
      · rw [if_pos (by rw [h]; rfl)] at hR
        rw [due_place (hW.trans hR.symm), Int.zero_add]
      · rw [if_neg (by rw [h]; decide)] at hR
        have hzn : z ∉ (ps.take j).map nameD := by simpa using h
        refine run_appP (p0 rfl) rfl (by
          rw [List.length_map, List.length_map, List.length_take]
          have := gd_len hx.gd
          omega) ⟨some (.dat (.int (0 + (j : Int)))), some (.dat (.tuple [.str z, .int n])), ?_, ?_, ?_⟩
        · rw [ht, List.map_append, List.map_append]
          rfl
        · rw [← hR, ht, List.map_append, List.reverse_append]
          rfl
        · rw [ht, List.map_append]
          exact List.nodup_append.mpr ⟨hn, List.nodup_cons.mpr ⟨List.not_mem_nil, List.nodup_nil⟩, fun a ha b hb => by
            have : b = z := List.mem_singleton.mp hb
            subst this
            exact fun e => hzn (e ▸ ha)⟩
  · rintro e ⟨x2, x3, rfl, hR, hn⟩
    rw [pairsD_len] at hR hn ⊢
    rw [List.take_length] at hR hn ⊢
    rw [List.drop_length] at hR
    have hpw : placesWrong 0 [] ps = .none := hW.trans hR.symm
    obtain ⟨nms, hnms⟩ : ∃ nms, nms = ps.map nameD := ⟨_, rfl⟩
    have hnum : numOf (numKv ps) = numL nms := by
      rw [hnms]
      exact funext fun z => num_is hn z
    rw [← hnms] at hn ⊢
    obtain ⟨Z, hZ⟩ : ∃ Z, firingsWrong (numL nms) 0 [] fs = Z := ⟨_, rfl⟩
    have dF : ∀ {r}, Z = r → isNoneD r = false → netWrong (.tuple [.tuple ps, .tuple fs]) = r := fun {r} e1 e2 => due_firing hne hpw (by rw [hnum]; exact hZ.trans e1) e2
    -- the firings
    refine run_seq (run_newL fun q2 => ?_)
    refine run_freeze (i := 1) rfl (run_seq (run_for (ew_enumT (ea_cons (v1 rfl) ea_nil)) (fun j e => ∃ x2 x5 x6 x7 x8, e = [some (.dat (.tuple [.tuple ps, .tuple fs])), some (.dat (.list (nms.map .str))), x2, x3, some (.lst q2 (((fs.take j).map nameD).map .str)), x5, x6, x7, x8, none] ∧ firingsWrong (numL nms) j ((fs.take j).map nameD).reverse (fs.drop j) = Z) ⟨_, _, _, _, _, rfl, hZ⟩ ?_ ?_))
    · rintro j d e hd ⟨x2, x5, x6, x7, x8, rfl, hR⟩
      obtain ⟨p, hp, rfl⟩ := pairsD_get hd
      have hj : j < fs.length := (List.getElem?_eq_some_iff.mp hp).1
      have hpm : Md p := md_in hy (List.mem_of_getElem? hp)
      have hpe : fs[j] = p := (List.getElem?_eq_some_iff.mp hp).2
      have ht : fs.take (j + 1) = fs.take j ++ [p] := by rw [List.take_add_one, hp]; rfl
      rw [List.drop_eq_getElem_cons hj, hpe] at hR
      unfold firingsWrong at hR
      refine tgt_tup rfl (tgts_cons (tgt_name (tgts_cons (tgt_name (tgts_nil ?_)))))
      have fv : ∀ {env : Lw.Env} {ds : List PyData} {i : Nat} {c : PyData}, env[5]? = some (some (.dat (.tuple ds))) → ds[i]? = some c → EvP K (tOp (rIxT K) (tVar 5) (tC (.int (i : Int)))) env c := fun h hc => ep_op (ep_var h) ep_int (rd_ixT (atI_nat hc))
      cases hi4 : isTupleOf p 4 with
      | false =>
        have hf : isFiring p = false := by
          unfold isFiring
          split
          · cases hi4
          · rfl
        rw [if_pos (by rw [hf]; rfl)] at hR
        exact run_seq (run_ifP (ept_or1 (et_is (ept_not (ept_b (m2 (ea_cons (ep_var rfl) (ea_cons ep_int ea_nil)) hpm))) (show (!isTupleOf p 4) = true by rw [hi4]; rfl))) (fun h => run_retP (ep_tup (ea_cons ep_str (ea_cons (ep_var rfl) ea_nil)) (by simp)) ⟨_, rfl, by rw [dF hR.symm rfl, Int.zero_add]⟩) fun h => by cases h)
      | true =>
      obtain ⟨xs, rfl, hl⟩ := isTupleOf_tup hi4
      obtain ⟨x, l, t, g, rfl⟩ := four_of hl
      have gx : Md x := md_in hpm (by simp)
      have gl : Md l := md_in hpm (by simp)
      have gt : Md t := md_in hpm (by simp)
      have gg : Md g := md_in hpm (by simp)
      have hF : isFiring (.tuple [x, l, t, g]) = (isName x && isLabel l && isParts t && isParts g) := rfl
      have f0 : ∀ {env : Lw.Env}, env[5]? = some (some (.dat (.tuple [x, l, t, g]))) → EvP K (tOp (rIxT K) (tVar 5) (tC (.int 0))) env x := fun h => fv (i := 0) h rfl
      have f1 : ∀ {env : Lw.Env}, env[5]? = some (some (.dat (.tuple [x, l, t, g]))) → EvP K (tOp (rIxT K) (tVar 5) (tC (.int 1))) env l := fun h => fv (i := 1) h rfl
      have f2 : ∀ {env : Lw.Env}, env[5]? = some (some (.dat (.tuple [x, l, t, g]))) → EvP K (tOp (rIxT K) (tVar 5) (tC (.int 2))) env t := fun h => fv (i := 2) h rfl
      have f3 : ∀ {env : Lw.Env}, env[5]? = some (some (.dat (.tuple [x, l, t, g]))) → EvP K (tOp (rIxT K) (tVar 5) (tC (.int 3))) env g := fun h => fv (i := 3) h rfl
      cases hxn : isName x with
      | false =>
        rw [if_pos (by rw [hF, hxn]; rfl)] at hR
        exact run_seq (run_ifP (ept_or (et_is (ept_not (ept_b (m2 (ea_cons (ep_var rfl) (ea_cons ep_int ea_nil)) hpm))) (show _ = false by rw [hi4]; rfl)) fun _ => ept_or1 (et_is (ept_not (ept_b (m1 (ea_cons (f0 rfl) ea_nil) gx))) (show (!isName x) = true by rw [hxn]; rfl))) (fun h => run_retP (ep_tup (ea_cons ep_str (ea_cons (ep_var rfl) ea_nil)) (by simp)) ⟨_, rfl, by rw [dF hR.symm rfl, Int.zero_add]⟩) fun h => by cases h)
      | true =>
      obtain ⟨z, rfl⟩ : ∃ z, x = .str z := by cases x <;> first | exact ⟨_, rfl⟩ | cases hxn
      rw [show nameD (.tuple [.str z, l, t, g]) = z from rfl, show ((fs.take j).map nameD).reverse.contains z = ((fs.take j).map nameD).contains z by rw [Bool.eq_iff_iff]; simp] at hR
      refine run_seq (run_ifP (et_is (ept_or (ept_not (ept_b (m2 (ea_cons (ep_var rfl) (ea_cons ep_int ea_nil)) hpm))) fun _ => ept_or (ept_not (ept_b (m1 (ea_cons (f0 rfl) ea_nil) gx))) fun _ => ept_test (ep_inOwn (f0 rfl) rfl)) (show _ = ((fs.take j).map nameD).contains z by rw [hi4, hxn]; rfl))
        (fun h => run_retP (ep_tup (ea_cons ep_str (ea_cons (ep_var rfl) ea_nil)) (by simp)) ⟨_, rfl, ?_⟩) fun hk => run_next ?_)
      · rw [if_pos (by rw [h, Bool.or_true])] at hR
        rw [dF hR.symm rfl, Int.zero_add]
      refine run_seq (run_ifP (et_is (ept_and (ept_not (ept_b (m1 (ea_cons (f1 rfl) ea_nil) gl))) fun _ => ept_not (ept_and (ept_b (isi_str (f1 rfl) (gd_nd gl.gd))) fun _ => ept_test (ep_op (f1 rfl) ep_str (rd_eqD (gd_shaped gl.gd (by decide)) (by decide +kernel))))) (label_is l))
        (fun h => run_retP (ep_tup (ea_cons ep_str (ea_cons (ep_var rfl) ea_nil)) (by simp)) ⟨_, rfl, ?_⟩) fun hlb => run_next ?_)
      · have h' : isLabel l = false := by simpa using h
        rw [if_pos (by rw [hF, h', hxn]; rfl)] at hR
        rw [dF hR.symm rfl, Int.zero_add]
      refine run_seq (run_ifP (ept_or (ept_not (ept_b (m4 (ea_cons (f2 rfl) ea_nil) gt))) fun _ => ept_not (ept_b (m4 (ea_cons (f3 rfl) ea_nil) gg)))
        (fun h => run_retP (ep_tup (ea_cons ep_str (ea_cons (ep_var rfl) ea_nil)) (by simp)) ⟨_, rfl, ?_⟩) fun hpt => run_next ?_)
      · have h' : (isParts t && isParts g) = false := by
          cases h1 : isParts t with
          | false => rfl
          | true => cases h2 : isParts g with
            | false => rfl
            | true => rw [h1, h2] at h; cases h
        rw [if_pos (by rw [hF, Bool.and_assoc, h', Bool.and_false]; rfl)] at hR
        rw [dF hR.symm rfl, Int.zero_add]
      have hlb' : isLabel l = true := by simpa using hlb
      obtain ⟨hpt1, hpt2⟩ : isParts t = true ∧ isParts g = true := by simpa using hpt
      rw [hF, hxn, hlb', hpt1, hpt2, hk, if_neg (by decide)] at hR
      refine run_seq (run_appP (f0 rfl) rfl (by
        rw [List.length_map, List.length_map, List.length_take]
        have := gd_len hy.gd
        omega) ?_)
      obtain ⟨ts, rfl, hts⟩ := parts_form hpt1
      obtain ⟨gs, rfl, hgs⟩ := parts_form hpt2
      have lt := gd_len gt.gd
      have lg := gd_len gg.gd
      refine run_seq (run_setP (ep_op (f2 rfl) (f3 rfl) (rd_catT (by omega))) ?_)
      rw [badPart_is] at hR
      obtain ⟨both, hboth⟩ : ∃ both, both = ts ++ gs := ⟨_, rfl⟩
      have hbl : both.length = ts.length + gs.length := by rw [hboth, List.length_append]
      have hbc : ∀ u ∈ both, isCounted u 1 = true := fun u hu => by
        rw [hboth] at hu
        rcases List.mem_append.mp hu with h | h
        · exact hts u h
        · exact hgs u h
      rw [← hboth] at hR ⊢
      obtain ⟨Bd, hB⟩ : ∃ Bd, fb nms (ts.length : Int) none 0 both = Bd := ⟨_, rfl⟩
      rw [hB] at hR
      refine run_for (ew_rng1 (n := (both.length : Int)) (by omega) (ea_cons (ep_cb (ea_cons (ep_var rfl) ea_nil) (rc_len rfl)) ea_nil)) (fun i e => ∃ x7 x8, e = [some (.dat (.tuple [.tuple ps, .tuple fs])), some (.dat (.list (nms.map .str))), some (.dat (.int (0 + (j : Int)))), x3, some (.lst q2 (((fs.take (j + 1)).map nameD).map .str)), some (.dat (.tuple [.str z, l, .tuple ts, .tuple gs])), some (.dat (.tuple both)), x7, x8, none] ∧ fb nms (ts.length : Int) (prevN (both.map nameD) i) (i : Int) (both.drop i) = Bd ∧ ∀ y ∈ (both.map nameD).take i, y ∈ nms) ⟨x7, x8, ?_, hB, fun y hy => by cases hy⟩ ?_ ?_
      · rw [ht, List.map_append, List.map_append]
        rfl
      · rintro i d e hd ⟨x7, x8, rfl, hf, hin⟩
        have hi : i < both.length := by
          have := (List.getElem?_eq_some_iff.mp hd).1
          rw [intsD_len] at this
          omega
        rw [intsD_get (by omega)] at hd
        cases hd
        rw [Int.zero_add]
        refine tgt_name ?_
        obtain ⟨u, hu⟩ : ∃ u, both[i] = u := ⟨_, rfl⟩
        have hui : both[i]? = some u := by rw [List.getElem?_eq_getElem hi, hu]
        have hum : u ∈ both := List.mem_of_getElem? hui
        obtain ⟨y, c, rfl, _, _, _⟩ := counted_form (hbc u hum)
        have hok : ∀ y ∈ both.map nameD, okS y = true := fun y hy => by
          obtain ⟨u, hu, rfl⟩ := List.mem_map.mp hy
          have hm : Md u := by
            rw [hboth] at hu
            rcases List.mem_append.mp hu with h | h
            · exact md_in gt h
            · exact md_in gg h
          obtain ⟨y, c, rfl, _, _, _⟩ := counted_form (hbc u hu)
          exact texts_ok y (md_str (md_in hm (by simp) : Md (.str y)))
        obtain ⟨zs, hzs⟩ : ∃ zs, ((both.map nameD).take i).drop (if ts.length ≤ i then ts.length else 0) = zs := ⟨_, rfl⟩
        have hah := ahead_is (both.map nameD) i ts.length (by rw [List.length_map]; omega)
        rw [hzs] at hah
        have e1 : ((both.take i).map fun d => PyData.str (nameD d)) = ((both.map nameD).take i).map .str := by rw [← List.map_take, List.map_map]; rfl
        have hc0 : (if ts.length ≤ i then ts.length else 0) ≤ (((both.map nameD).take i).map PyData.str).length := by
          rw [List.length_map, List.length_take, List.length_map]
          split <;> omega
        refine run_seq (run_setP (d := .list (zs.map .str)) (ep_is (ep_sl (ep_lcA (vs := [9]) (ew_tup (ep_is (ep_sl (ep_var rfl) eo_none (eo_some (ep_var rfl)) rsl_tup) (congrArg PyData.tuple (cut_take both i (by omega))))) rfl (by rw [List.length_take]; omega) (own_name (by simp)) (fun d => .str (nameD d)) fun d hd => tgt_name ⟨rfl, by
            obtain ⟨y, c, rfl, _, _, _⟩ := counted_form (hbc d (List.mem_of_mem_take hd))
            exact ep_op (ep_var rfl) ep_int (rd_ixT (i := 0) (c := .str y) (atI_nat (j := 0) rfl))⟩)
          (eo_some (ep_is (b := .int ((if ts.length ≤ i then ts.length else 0 : Nat) : Int)) (ep_op (ep_cb (ea_cons (f2 rfl) ea_nil) (rc_len rfl)) (ep_cb (ea_cons (ep_op (ep_var rfl) (ep_cb (ea_cons (f2 rfl) ea_nil) (rc_len rfl)) rd_IB) ea_nil) rc_int1) (rd_I (wide_mul (a := 20) (b := 2) (by omega) (by split <;> decide) (by decide) (by decide) (by decide)))) ?eqn)) eo_none rsl_lst) ?cut) ?main)
        case eqn =>
          refine congrArg PyData.int ?_
          by_cases h : ts.length ≤ i
          · rw [if_pos h, if_pos (decide_eq_true (by omega))]
            omega
          · rw [if_neg h, if_neg (by rw [decide_eq_true_eq]; omega)]
            omega
        case cut =>
          refine congrArg PyData.list ?_
          rw [e1, cut_drop _ _ hc0, ← List.map_drop, hzs]
        case main =>
        have b0 : ∀ {env : Lw.Env}, env[6]? = some (some (.dat (.tuple both))) → env[7]? = some (some (.dat (.int (i : Int)))) → EvP K (tOp (rIxT K) (tOp (rIxT K) (tVar 6) (tVar 7)) (tC (.int 0))) env (.str y) := fun h6 h7 => ep_op (ep_op (ep_var h6) (ep_var h7) (rd_ixT (atI_nat hui))) ep_int (rd_ixT (i := 0) (atI_nat (j := 0) rfl))
        have hpv : prevN (both.map nameD) (i + 1) = some y := by
          show (both.map nameD)[i]? = some y
          rw [List.getElem?_map, hui]
          rfl
        rw [List.drop_eq_getElem_cons hi, hu, fb] at hf
        have hbad : ∀ k : Int, Bd = some k → netWrong (.tuple [.tuple ps, .tuple fs]) = .tuple [.str "part", .int (j : Int), .int k] := fun k hk => by
          rw [hk] at hR
          exact dF hR.symm rfl
        refine run_seq (run_ifP (ept_test (ep_ninStrs (b0 rfl rfl) (ep_var rfl))) (fun h => run_retP (ep_tup (ea_cons ep_str (ea_cons (ep_var rfl) (ea_cons (ep_var rfl) ea_nil))) (by simp)) ⟨_, rfl, ?_⟩) fun h => run_next ?_)
        · have hn' : y ∉ nms := by simpa using h
          have hb : badNext nms (if (i : Int) = (ts.length : Int) then none else prevN (both.map nameD) i) (.tuple [.str y, .int c]) = true := by
            unfold badNext
            rw [show numL nms (nameD (.tuple [.str y, .int c])) = none from if_neg hn']
          rw [if_pos hb] at hf
          rw [hbad i hf.symm, Int.zero_add]
        · have hyn : y ∈ nms := by simpa using h
          have hnum1 : numL nms (nameD (.tuple [.str y, .int c])) = some (ix y nms : Int) := if_pos hyn
          have hin' : ∀ y' ∈ (both.map nameD).take (i + 1), y' ∈ nms := fun y' hy' => by
            rw [List.take_add_one] at hy'
            rcases List.mem_append.mp hy' with h | h
            · exact hin y' h
            · rw [List.getElem?_map, hui] at h
              have : y' = y := List.mem_singleton.mp h
              rw [this]
              exact hyn
          have hzg : gd 1 (.list (zs.map .str)) = true := by
            have hzl : zs.length ≤ 1000 := by
              rw [← hzs, List.length_drop, List.length_take, List.length_map]
              have e1 : ts.length ≤ 100 := (md_tup gt).choose_spec.2.1
              have e2 : gs.length ≤ 100 := (md_tup gg).choose_spec.2.1
              omega
            have hza : (zs.map PyData.str).all (gd 0) = true := by
              rw [List.all_map, List.all_eq_true]
              intro y' hy'
              rw [← hzs] at hy'
              have := hok y' (List.mem_of_mem_take (List.mem_of_mem_drop hy'))
              simpa [gd] using this
            simp only [gd, Bool.and_eq_true, decide_eq_true_eq]
            exact ⟨by rw [List.length_map]; exact hzl, hza⟩
          have sh := gd_shaped hzg (by decide)
          rcases hah with ⟨hp', hz'⟩ | ⟨q', init, hp', hz', hq'⟩
          · subst hz'
            rw [hp', if_neg (by
              unfold badNext
              rw [hnum1]
              show ¬ decide ((ix y nms : Int) ≤ -1) = true
              rw [decide_eq_true_eq]
              omega)] at hf
            refine run_ifP (ept_and0 (et_is (ept_test (ep_op (ep_var rfl) (ep_lst ea_nil (by decide)) (rd_neD sh rfl))) (show _ = false from rfl))) (fun h => by cases h) fun _ => run_next ⟨some (.dat (.int (i : Int))), some (.dat (.list [])), rfl, ?_, hin'⟩
            rw [hpv]
            exact hf
          · subst hz'
            have hqn : q' ∈ nms := hin q' hq'
            have hev : badNext nms (some q') (.tuple [.str y, .int c]) = decide ((ix y nms : Int) ≤ (ix q' nms : Int)) := by
              unfold badNext
              rw [hnum1]
              rfl
            rw [hp', hev] at hf
            have neg : EvP K (tUn (rU fun i => .int (-i)) (tC (.int 1))) [some (.dat (.tuple [.tuple ps, .tuple fs])), some (.dat (.list (nms.map .str))), some (.dat (.int (0 + (j : Int)))), x3, some (.lst q2 (((fs.take (j + 1)).map nameD).map .str)), some (.dat (.tuple [.str z, l, .tuple ts, .tuple gs])), some (.dat (.tuple both)), some (.dat (.int (i : Int))), some (.dat (.list ((init ++ [q']).map .str))), none] (.int (-1)) := ep_un ep_int (fun I H x _ hx Q q _ => by
              cases dp_int hx
              exact ⟨1, rfl, q _ (.int _)⟩)
            refine run_ifP (et_is (ept_and (et_is (ept_test (ep_op (ep_var rfl) (ep_lst ea_nil (by decide)) (rd_neD sh rfl))) (show _ = true from ?_)) fun _ => ept_test (ep_op (ep_index (ep_var rfl) (ep_op (ep_var rfl) neg (rd_ixL (c := .str q') (by rw [List.map_append]; exact atI_last _ _))) hqn) (ep_index (ep_var rfl) (b0 rfl rfl) hyn) rd_IB)) (Bool.true_and _)) (fun h => run_retP (ep_tup (ea_cons ep_str (ea_cons (ep_var rfl) (ea_cons (ep_var rfl) ea_nil))) (by simp)) ⟨_, rfl, ?_⟩) fun h => run_next ⟨_, _, rfl, ?_, hin'⟩
            · cases init <;> rfl
            · rw [if_pos h] at hf
              rw [hbad i hf.symm, Int.zero_add]
            · rw [if_neg (by rw [h]; decide)] at hf
              rw [hpv]
              exact hf
      · rintro e ⟨x7, x8, rfl, hf, hin⟩
        rw [intsD_len, Int.toNat_natCast, List.drop_length] at hf
        have hB' : Bd = none := hf.symm
        rw [hB'] at hR
        refine ⟨_, _, _, _, _, rfl, ?_⟩
        rw [← hR, ht, List.map_append, List.reverse_append]
        rfl
    · rintro e ⟨x2, x5, x6, x7, x8, rfl, hR⟩
      rw [pairsD_len, List.drop_length] at hR
      have hw := due_great hne hpw (by rw [hnum]; exact hZ.trans hR.symm)
      refine run_seq (run_ifP (ept_or (ept_test (ep_op (ep_cb (ea_cons (v0 rfl) ea_nil) (rc_len rfl)) ep_int rd_IB)) fun _ => ept_test (ep_op (ep_cb (ea_cons (v1 rfl) ea_nil) (rc_len rfl)) ep_int rd_IB)) (fun h => run_retP (ep_tup (ea_cons ep_str ea_nil) (by decide)) ⟨_, rfl, ?_⟩) fun h => run_next (run_retP ep_non ⟨_, rfl, ?_⟩))
      · rw [hw, if_pos h]
        rfl
      · rw [hw, if_neg (by rw [h]; decide)]
end
end Nt

set_option Elab.async false
set_option linter.all false
set_option autoImplicit false
set_option maxRecDepth 100000
set_option maxHeartbeats 4000000
/-! A drawn net is one. -/
namespace Nt
open PySem PySem.Spec PyProof.Rows L2 Lw
theorem menu_ok : ∀ z ∈ menu, nameOk z = true := by decide +kernel
theorem lab1_ok : nameOk "lab1" = true := by decide +kernel
theorem part_counted {q : Str × Int} {l : Int} (h1 : q.1 ∈ menu) (h2 : l ≤ q.2) (h3 : q.2 ≤ 999999999) : isCounted (partD q) l = true := by
  show (nameOk q.1 && (decide (l ≤ q.2) && decide (q.2 ≤ 999999999))) = true
  rw [menu_ok _ h1, decide_eq_true h2, decide_eq_true h3]
  rfl
theorem places_none : ∀ (qs : List (Str × Int)) (k : Nat) (ah : List Str), (qs.map (·.1)).Nodup → (∀ q ∈ qs, q.1 ∈ menu ∧ 0 ≤ q.2 ∧ q.2 ≤ 999999999 ∧ q.1 ∉ ah) → placesWrong k ah (qs.map partD) = .none
  | [], _, _, _, _ => rfl
  | q :: qs, k, ah, hn, h => by
    obtain ⟨h1, h2, h3, h4⟩ := h q List.mem_cons_self
    rw [List.map_cons, placesWrong, part_counted h1 h2 h3, show nameD (partD q) = q.1 from rfl, if_neg (by simpa using h4)]
    refine places_none qs (k + 1) (q.1 :: ah) (List.nodup_cons.mp hn).2 fun p hp => ?_
    obtain ⟨g1, g2, g3, g4⟩ := h p (List.mem_cons_of_mem _ hp)
    refine ⟨g1, g2, g3, fun e => ?_⟩
    rcases List.mem_cons.mp e with e | e
    · exact (List.nodup_cons.mp hn).1 (List.mem_map.mpr ⟨p, hp, e⟩)
    · exact g4 e
theorem ix_mid {x : Str} : ∀ (pre : List Str) (post : List Str), x ∉ pre → ix x (pre ++ x :: post) = pre.length
  | [], _, _ => if_pos rfl
  | y :: pre, post, h => by
    have hy : y ≠ x := fun e => h (e ▸ List.mem_cons_self)
    have := ix_mid pre post fun e => h (List.mem_cons_of_mem _ e)
    show (if y = x then 0 else ix x (pre ++ x :: post) + 1) = _
    rw [if_neg hy, this]
    rfl
theorem badIn_none (nms : List Str) (hn : nms.Nodup) : ∀ (rest pre : List Str) (ps : List (Str × Int)) (j last : Int), nms = pre ++ rest → (ps.map (·.1)).Sublist rest → last < (pre.length : Int) → ∃ j', badIn (numL nms) j last (ps.map partD) = .inr j'
  | [], pre, ps, j, last, e, h, hl => by
    have : ps = [] := by
      cases ps with
      | nil => rfl
      | cons _ _ => cases h
    subst this
    exact ⟨j, rfl⟩
  | x :: rest, pre, ps, j, last, e, h, hl => by
    have e' : nms = (pre ++ [x]) ++ rest := by rw [e, List.append_assoc]; rfl
    have hl' : ((pre ++ [x]).length : Int) = (pre.length : Int) + 1 := by rw [List.length_append]; rfl
    cases ps with
    | nil => exact ⟨j, rfl⟩
    | cons p ps =>
      cases h with
      | cons _ h => exact badIn_none nms hn rest (pre ++ [x]) (p :: ps) j last e' h (by omega)
      | cons_cons _ h =>
        have hx : p.1 ∉ pre := fun hp => by
          rw [e] at hn
          exact (List.nodup_append.mp hn).2.2 _ hp _ List.mem_cons_self rfl
        have hi : numL nms p.1 = some (pre.length : Int) := by
          unfold numL
          rw [if_pos (by rw [e]; exact List.mem_append_right _ List.mem_cons_self)]
          conv => lhs; rw [e, ix_mid pre rest hx]
        obtain ⟨j', hj⟩ := badIn_none nms hn rest (pre ++ [p.1]) ps (j + 1) (pre.length : Int) e' h (by rw [List.length_append, List.length_singleton]; omega)
        refine ⟨j', ?_⟩
        rw [List.map_cons, badIn, show nameD (partD p) = p.1 from rfl, hi]
        show (if (pre.length : Int) ≤ last then _ else _) = _
        rw [if_neg (by omega)]
        exact hj
theorem parts_all {nms : List Str} (hm : ∀ z ∈ nms, z ∈ menu) {ps : List (Str × Int)} (h : PartsOk nms ps) : isParts (.tuple (ps.map partD)) = true := by
  show (ps.map partD).all _ = true
  rw [List.all_map, List.all_eq_true]
  exact fun q hq => part_counted (hm _ (h.1.subset (List.mem_map.mpr ⟨q, hq, rfl⟩))) (h.2 q hq).1 (h.2 q hq).2
theorem firings_none (nms : List Str) (hn : nms.Nodup) (hm : ∀ z ∈ nms, z ∈ menu) : ∀ (fs : List Fire) (k : Nat) (ah : List Str), (fs.map (·.1)).Nodup →
    (∀ f ∈ fs, f.1 ∈ menu ∧ f.1 ∉ ah ∧ (f.2.1 = "" ∨ f.2.1 = "lab1" ∨ f.2.1 ∈ menu) ∧ PartsOk nms f.2.2.1 ∧ PartsOk nms f.2.2.2) → firingsWrong (numL nms) k ah (fs.map fireD) = .none
  | [], _, _, _, _ => rfl
  | f :: fs, k, ah, hf, h => by
    obtain ⟨h1, h2, h3, h4, h5⟩ := h f List.mem_cons_self
    have hl : isLabel (.str f.2.1) = true := by
      rcases h3 with e | e | e
      · rw [e]; decide +kernel
      · rw [e]; decide +kernel
      · show (_ || nameOk f.2.1) = true
        rw [menu_ok _ e, Bool.or_true]
    have hF : isFiring (fireD f) = true := by
      show (nameOk f.1 && isLabel (.str f.2.1) && isParts (.tuple (f.2.2.1.map partD)) && isParts (.tuple (f.2.2.2.map partD))) = true
      rw [menu_ok _ h1, hl, parts_all hm h4, parts_all hm h5]
      rfl
    have hb : badPart (numL nms) (fireD f) = .none := by
      obtain ⟨j1, e1⟩ := badIn_none nms hn nms [] f.2.2.1 0 (-1) rfl h4.1 (by decide)
      obtain ⟨j2, e2⟩ := badIn_none nms hn nms [] f.2.2.2 j1 (-1) rfl h5.1 (by decide)
      show badAll (numL nms) 0 [f.2.2.1.map partD, f.2.2.2.map partD] = _
      rw [badAll, e1]
      show badAll (numL nms) j1 [f.2.2.2.map partD] = _
      rw [badAll, e2]
      rfl
    rw [List.map_cons, firingsWrong, hF, show nameD (fireD f) = f.1 from rfl, if_neg (by simpa using h2), hb, if_pos (show isNoneD .none = true from rfl)]
    refine firings_none nms hn hm fs (k + 1) (f.1 :: ah) (List.nodup_cons.mp hf).2 fun p hp => ?_
    obtain ⟨g1, g2, g3⟩ := h p (List.mem_cons_of_mem _ hp)
    refine ⟨g1, fun e => ?_, g3⟩
    rcases List.mem_cons.mp e with e | e
    · exact (List.nodup_cons.mp hf).1 (List.mem_map.mpr ⟨p, hp, e⟩)
    · exact g2 e
theorem net_none {qs : List (Str × Int)} {fs : List Fire} (h : NetOk qs fs) : netWrong (netD qs fs) = .none := by
  have hne : (qs.map partD).isEmpty = false := by
    cases qs with
    | nil => exact absurd h.ne (by decide)
    | cons _ _ => rfl
  have hnm : (qs.map partD).map nameD = qs.map (·.1) := by rw [List.map_map]; rfl
  have h1 := places_none qs 0 [] h.names.1 fun q hq => ⟨h.names.2 _ (List.mem_map.mpr ⟨q, hq, rfl⟩), (h.cnt q hq).1, (h.cnt q hq).2, List.not_mem_nil⟩
  have h2 := firings_none (qs.map (·.1)) h.names.1 h.names.2 fs 0 [] h.fn.1 fun f hf => ⟨h.fn.2 _ (List.mem_map.mpr ⟨f, hf, rfl⟩), List.not_mem_nil, h.fo f hf⟩
  have hnum : numOf (numKv (qs.map partD)) = numL (qs.map (·.1)) := by
    rw [← hnm]
    exact funext fun z => num_is (by rw [hnm]; exact h.names.1) z
  have hw := due_great (fs := fs.map fireD) hne h1 (by rw [hnum]; exact h2)
  refine hw.trans (if_neg ?_)
  have := h.le
  have := h.fl
  rw [List.length_map, List.length_map]
  simp only [Bool.or_eq_true, decide_eq_true_eq]
  omega
theorem part_md {q : Str × Int} {m n : Nat} (hm : 2 ≤ m) (h : q.1 ∈ menu) (h2 : q.2.natAbs ≤ 1000000000) : md m (n + 1) (partD q) = true := by
  have : texts.contains q.1 = true := by
    have : q.1 ∈ texts := List.mem_append_left _ h
    simpa using this
  simp only [partD, md, Bool.and_eq_true, decide_eq_true_eq, List.all_cons, List.all_nil]
  refine ⟨hm, ?_, ?_⟩
  · cases n <;> simpa [md] using this
  · cases n <;> simpa [md] using h2
theorem net_md {qs : List (Str × Int)} {fs : List Fire} (h : NetOk qs fs) : md 6 5 (netD qs fs) = true := by
  have ps_md : ∀ {ps : List (Str × Int)}, PartsOk (qs.map (·.1)) ps → md 6 2 (.tuple (ps.map partD)) = true := fun {ps} hp => by
    have hl := hp.1.length_le
    rw [List.length_map, List.length_map] at hl
    have := h.le
    simp only [md, Bool.and_eq_true, decide_eq_true_eq, List.all_eq_true]
    refine ⟨by rw [List.length_map]; omega, fun d hd => ?_⟩
    obtain ⟨q, hq, rfl⟩ := List.mem_map.mp hd
    exact part_md (by decide) (h.names.2 _ (hp.1.subset (List.mem_map.mpr ⟨q, hq, rfl⟩))) (by
      have := hp.2 q hq
      omega)
  have lg := h.le
  have lf := h.fl
  have text_md : ∀ {z : Str} {n : Nat}, z ∈ texts → md 6 n (.str z) = true := fun {z n} hz => by
    have : texts.contains z = true := by simpa using hz
    cases n <;> simpa [md] using this
  have f_md : ∀ f ∈ fs, md 6 3 (fireD f) = true := fun f hf => by
    obtain ⟨g1, g2, g3⟩ := h.fo f hf
    have g0 : f.1 ∈ menu := h.fn.2 _ (List.mem_map.mpr ⟨f, hf, rfl⟩)
    have gl : f.2.1 ∈ texts := by
      rcases g1 with e | e | e
      · rw [e]; decide +kernel
      · rw [e]; decide +kernel
      · exact List.mem_append_left _ e
    unfold fireD md
    simp only [Bool.and_eq_true, decide_eq_true_eq, List.all_cons, List.all_nil, Bool.and_true]
    exact ⟨by simp, text_md (List.mem_append_left _ g0), text_md gl, ps_md g2, ps_md g3⟩
  unfold netD md
  simp only [Bool.and_eq_true, decide_eq_true_eq, List.all_cons, List.all_nil, Bool.and_true]
  refine ⟨by simp, ?_, ?_⟩
  · unfold md
    simp only [Bool.and_eq_true, decide_eq_true_eq, List.all_eq_true]
    refine ⟨by rw [List.length_map]; omega, fun d hd => ?_⟩
    obtain ⟨q, hq, rfl⟩ := List.mem_map.mp hd
    exact part_md (by decide) (h.names.2 _ (List.mem_map.mpr ⟨q, hq, rfl⟩)) (by
      have := h.cnt q hq
      omega)
  · unfold md
    simp only [Bool.and_eq_true, decide_eq_true_eq, List.all_eq_true]
    refine ⟨by rw [List.length_map]; omega, fun d hd => ?_⟩
    obtain ⟨f, hf, rfl⟩ := List.mem_map.mp hd
    exact f_md f hf
end Nt

set_option Elab.async false
set_option linter.all false
set_option autoImplicit false
set_option maxRecDepth 100000
set_option maxHeartbeats 8000000
/-! What the law bends. -/
namespace Nt
open PySem PySem.Spec PyProof.Rows L2 Lw
section
variable {P : Program} {w : World} {K : PySem.W.Frag} {mg : Str → Option Value} {base : Heap} {env : Lw.Env} {te ta tb : TE} {d : PyData} {tr : TA}
theorem rd_catL {ds es : List PyData} (hl : ds.length + es.length ≤ 100000) : RD K rCat (.list ds) (.list es) (.list (ds ++ es)) := fun I H x y e hx hy Q q q2 => by
  obtain ⟨p, xs, rfl, hs, hd⟩ := dp_lst hx
  obtain ⟨p', ys, rfl, hs', hd'⟩ := dp_lst hy
  exact ⟨p, p', xs, ys, rfl, rfl, e _ _ hs, e _ _ hs', Nat.le_trans (by rw [dpA_len hd, dpA_len hd']; exact hl) (by decide), fun np hp => q2 _ _ hp (.lst upd_same (dpA_mono (Ex.new (e.back hp)) (dpA_app hd hd')))⟩
theorem ep_neg1 : EvP K (tUn (rU fun i => .int (-i)) (tC (.int 1))) env (.int (-1)) := ep_un ep_int (fun I H x _ hx Q q _ => by
  cases dp_int hx
  exact ⟨1, rfl, q _ (.int _)⟩)
/-! ### _law_odd_thing -/
abbrev aOne (k : Int) : PyData := .tuple [.str "a", .int k]
abbrev odd1 : List PyData := [.none, .bool true, .bool false, .int 0, .int 1, .int (-1), .int 1000000000, .int 999999999, .str "", .str "a", .str "abcdefghi", .str "A", .str "a b", .str "place", .str "as", .str "9a", .tuple []]
abbrev odd2 : List PyData := [.list [], aOne 1, aOne 0, .tuple [.str "b", .int 2], .list [aOne 1], .tuple [aOne 1], .tuple [aOne 1, aOne 1], .tuple [.tuple [], .tuple []]]
abbrev odd3 : List PyData := [.tuple [.str "a"], .str "c2", .int 7]
theorem odd_md : ∀ d ∈ odd1 ++ odd2 ++ odd3, md 2 2 d = true ∧ d.weight ≤ 40 := by decide +kernel
abbrev nOdd : List Str := ["_law_purse_here", "_law_some"]
theorem scOdd : FnScope nOdd ["_law_purse_here"] (defScope sLOdd) := ⟨rfl, rfl, rfl, by decide +kernel, rfl, by decide +kernel, by decide +kernel⟩
abbrev spOdd (K : PySem.W.Frag) : Sp := spU K 1 (fun ds => ds = []) fun _ r => md 2 2 r = true ∧ r.weight ≤ 40
theorem ok_odd (D : DefAt K mg "_law_odd_thing" sLOdd ["_law_purse_here"]) (B : Bi mg) (cT : Cal P w K mg base 2 "_law_take" (spTake K)) : Cal P w K mg base 3 "_law_odd_thing" (spOdd K) := by
  refine D.calU scOdd (fun ds e => by rw [e]; rfl) fun f cdv A outer s H E hr => ⟨_, pss_cons (ps_set (i := 1) scOdd.nd rfl (.inl rfl) (pe_lst (pa_cons pe_non (pa_cons pe_bl (pa_cons pe_bl (pa_cons pe_int (pa_cons pe_int (pa_cons (pe_un un_neg pe_int) (pa_cons (pe_op op_pow pe_int pe_int) (pa_cons pe_int (pa_cons pe_str (pa_cons pe_str (pa_cons pe_str (pa_cons pe_str (pa_cons pe_str (pa_cons pe_str (pa_cons pe_str (pa_cons pe_str (pa_cons (pe_tup pa_nil) pa_nil)))))))))))))))))))
    (pss_cons (ps_set (i := 1) scOdd.nd rfl (.inl rfl) (pe_op op_cat (pv 1) (pe_lst (pa_cons (pe_lst pa_nil) (pa_cons (pe_tup (pa_cons pe_str (pa_cons pe_int pa_nil))) (pa_cons (pe_tup (pa_cons pe_str (pa_cons pe_int pa_nil))) (pa_cons (pe_tup (pa_cons pe_str (pa_cons pe_int pa_nil))) (pa_cons (pe_lst (pa_cons (pe_tup (pa_cons pe_str (pa_cons pe_int pa_nil))) pa_nil)) (pa_cons (pe_tup (pa_cons (pe_tup (pa_cons pe_str (pa_cons pe_int pa_nil))) pa_nil)) (pa_cons (pe_tup (pa_cons (pe_tup (pa_cons pe_str (pa_cons pe_int pa_nil))) (pa_cons (pe_tup (pa_cons pe_str (pa_cons pe_int pa_nil))) pa_nil))) (pa_cons (pe_tup (pa_cons (pe_tup pa_nil) (pa_cons (pe_tup pa_nil) pa_nil))) pa_nil)))))))))))
    (pss_cons (ps_set (i := 1) scOdd.nd rfl (.inl rfl) (pe_op op_cat (pv 1) (pe_lst (pa_cons (pe_tup (pa_cons pe_str pa_nil)) (pa_cons pe_str (pa_cons pe_int pa_nil))))))
    (pss_one (ps_ret (pe_ix ix_list (pv 1) (pe_d cT hr (by decide) (by rfl) (pa_cons (pv 0) (pa_cons (pe_callB call_len (by rfl) B.len PySem.boot_len (pa_cons (pv 1) pa_nil)) pa_nil))) (fun _ _ => rfl)))))), ?_⟩
  rintro p n ds rfl
  have a1 : ∀ {e : Lw.Env} {k : Int}, EvP K (tTup (tCons (tC (.str "a")) (tCons (tC (.int k)) tNil))) e (aOne k) := ep_tup (ea_cons ep_str (ea_cons ep_int ea_nil)) (by simp)
  have t0 : ∀ {e : Lw.Env}, EvP K (tTup tNil) e (.tuple []) := ep_tup ea_nil (by simp)
  refine run_seq (run_setP (d := .list odd1) (ep_lst (ea_cons ep_non (ea_cons ep_bl (ea_cons ep_bl (ea_cons ep_int (ea_cons ep_int (ea_cons ep_neg1 (ea_cons pw9 (ea_cons ep_int (ea_cons ep_str (ea_cons ep_str (ea_cons ep_str (ea_cons ep_str (ea_cons ep_str (ea_cons ep_str (ea_cons ep_str (ea_cons ep_str (ea_cons t0 ea_nil))))))))))))))))) (by simp)) ?_)
  refine run_seq (run_setP (d := .list (odd1 ++ odd2)) (ep_op (ep_var rfl) (ep_lst (ea_cons (ep_lst ea_nil (by simp)) (ea_cons a1 (ea_cons a1 (ea_cons (ep_tup (ea_cons ep_str (ea_cons ep_int ea_nil)) (by simp)) (ea_cons (ep_lst (ea_cons a1 ea_nil) (by simp)) (ea_cons (ep_tup (ea_cons a1 ea_nil) (by simp)) (ea_cons (ep_tup (ea_cons a1 (ea_cons a1 ea_nil)) (by simp)) (ea_cons (ep_tup (ea_cons t0 (ea_cons t0 ea_nil)) (by simp)) ea_nil)))))))) (by simp)) (rd_catL (by simp))) ?_)
  refine run_seq (run_setP (d := .list (odd1 ++ odd2 ++ odd3)) (ep_op (ep_var rfl) (ep_lst (ea_cons (ep_tup (ea_cons ep_str ea_nil) (by simp)) (ea_cons ep_str (ea_cons ep_int ea_nil))) (by simp)) (rd_catL (by simp))) ?_)
  obtain ⟨es, hes⟩ : ∃ es, es = odd1 ++ odd2 ++ odd3 := ⟨_, rfl⟩
  have hel : es.length = 28 := by rw [hes]; rfl
  rw [← hes]
  refine run_ret (ev_op (ep_var rfl) fun a e z => ?_)
  obtain ⟨rfl, rfl⟩ := z
  refine ev_take (far := (es.length : Int)) rfl (ea_cons (ep_cb (ea_cons (ep_var rfl) ea_nil) (rc_len rfl)) ea_nil) (by omega) (by omega) fun g g0 g1 => ?_
  obtain ⟨j, rfl⟩ : ∃ j : Nat, g = (j : Int) := ⟨g.toNat, by omega⟩
  have hj : j < es.length := by omega
  exact ⟨es[j], rd_ixL (by rw [atI_nat]; simp [hj]), ⟨n, Nat.le_refl _, rfl⟩, odd_md _ (by rw [← hes]; exact List.getElem_mem hj)⟩
end
end Nt

set_option Elab.async false
set_option linter.all false
set_option autoImplicit false
set_option maxRecDepth 100000
set_option maxHeartbeats 8000000
/-! What the law bends: the bending. -/
namespace Nt
open PySem PySem.Spec PyProof.Rows L2 Lw
/-! ### weights -/
theorem wA_app : ∀ (xs ys : List PyData), PyData.weightAll (xs ++ ys) = PyData.weightAll xs + PyData.weightAll ys
  | [], ys => by simp [PyData.weightAll]
  | x :: xs, ys => by
    rw [List.cons_append, PyData.weightAll, PyData.weightAll, wA_app xs ys]
    omega
theorem wA_take (xs : List PyData) (i : Nat) : PyData.weightAll (xs.take i) ≤ PyData.weightAll xs := by
  have := wA_app (xs.take i) (xs.drop i)
  rw [List.take_append_drop] at this
  omega
theorem wA_drop (xs : List PyData) (i : Nat) : PyData.weightAll (xs.drop i) ≤ PyData.weightAll xs := by
  have := wA_app (xs.take i) (xs.drop i)
  rw [List.take_append_drop] at this
  omega
theorem wA_set : ∀ (xs : List PyData) (i : Nat) (v : PyData), PyData.weightAll (xs.set i v) ≤ PyData.weightAll xs + v.weight
  | [], _, _ => by simp [PyData.weightAll]
  | x :: xs, 0, v => by
    rw [List.set_cons_zero, PyData.weightAll, PyData.weightAll]
    omega
  | x :: xs, i + 1, v => by
    rw [List.set_cons_succ, PyData.weightAll, PyData.weightAll]
    have := wA_set xs i v
    omega
theorem wA_get : ∀ (xs : List PyData) (i : Nat) (h : i < xs.length), xs[i].weight + 1 + PyData.weightAll (xs.take i) + PyData.weightAll (xs.drop (i + 1)) = PyData.weightAll xs
  | x :: xs, 0, _ => by simp [PyData.weightAll]
  | x :: xs, i + 1, h => by
    have := wA_get xs i (by simpa using h)
    rw [List.getElem_cons_succ, List.take_succ_cons, List.drop_succ_cons, PyData.weightAll, PyData.weightAll]
    omega
/-- data stays within bounds, two levels deeper and one longer -/
def Grows (a r : PyData) : Prop := (∀ m k, 2 ≤ m → md m k a = true → md (m + 1) (k + 2) r = true) ∧ r.weight ≤ 3 * a.weight + 40
theorem grows_odd {a r : PyData} (h : md 2 2 r = true) (hw : r.weight ≤ 40) : Grows a r := ⟨fun m k hm _ => md_up (by omega) _ _ _ (by omega) h, by omega⟩
/-- from a tuple to another, or a list, of things of it and of one grown out of one of it -/
theorem grows_items {ds es : List PyData} (hw : PyData.weightAll es ≤ 3 * PyData.weightAll ds + 40) (hl : es.length ≤ ds.length + 1) (h : ∀ e ∈ es, e ∈ ds ∨ ∃ d ∈ ds, Grows d e) : Grows (.tuple ds) (.tuple es) := ⟨fun m k hm hd => by
  obtain ⟨k, rfl, h1, h2⟩ := md_tup hd
  show (decide (es.length ≤ m + 1) && es.all (md (m + 1) (k + 2))) = true
  rw [Bool.and_eq_true, List.all_eq_true]
  refine ⟨decide_eq_true (by omega), fun e he => ?_⟩
  rcases h e he with h | ⟨d, hd, hg⟩
  · exact md_up (Nat.le_succ _) _ _ _ (by omega) (h2 e h)
  · exact hg.1 m k hm (h2 d hd), by
  rw [PyData.weight, PyData.weight]
  exact hw⟩
theorem grows_list {ds es : List PyData} (hw : PyData.weightAll es ≤ 3 * PyData.weightAll ds + 40) (hl : es.length ≤ ds.length + 1) (h : ∀ e ∈ es, e ∈ ds ∨ ∃ d ∈ ds, Grows d e) : Grows (.tuple ds) (.list es) := ⟨fun m k hm hd => (grows_items hw hl h).1 m k hm hd, by
  rw [PyData.weight, PyData.weight]
  exact hw⟩
section
variable {P : Program} {w : World} {K : PySem.W.Frag} {mg : Str → Option Value} {base : Heap} {env : Lw.Env} {te ta tb : TE} {d : PyData} {tr : TA}
abbrev nBent : List Str := ["_law_purse_here", "_law_what", "_law_at_here", "_law_mode", "_law_other", "_law_found"]
theorem scBent : FnScope nBent ["_law_purse_here", "_law_what"] (defScope sLBent) := ⟨rfl, rfl, rfl, by decide +kernel, rfl, by decide +kernel, by decide +kernel⟩
abbrev spBent (K : PySem.W.Frag) : Nat → Sp
  | 0 => spU K 0 (fun _ => False) fun ds r => ∃ a, ds = [a] ∧ Grows a r
  | n + 1 => spU K (6 * (n + 1)) (fun ds => ∃ a, ds = [a] ∧ n ≤ 20 ∧ md 90 n a = true) fun ds r => ∃ a, ds = [a] ∧ Grows a r
theorem ok_bent0 (D : DefAt K mg "_law_bent" sLBent ["_law_purse_here", "_law_what"]) : Cal P w K mg base 4 "_law_bent" (spBent K 0) := by
  obtain ⟨f, fd, F, hm, hb⟩ := D.ex
  have no : ∀ {vs H Q E}, spBent K 0 vs H Q E → False := fun {vs H Q E} h => by
    obtain ⟨_, _, _, _, _, _, _, _, _, _, h, _⟩ := h
    exact h
  exact ⟨f, fd, _, ⟨fun vs H Q E h => (no h).elim, fun A outer s H args us vs Q E _ _ _ _ h => (no h).elim⟩, hm, F.kp, hb⟩
/-- the bound that a bending of data of depth n wants -/
theorem ok_bent (D : DefAt K mg "_law_bent" sLBent ["_law_purse_here", "_law_what"]) (B : Bi mg) (cT : Cal P w K mg base 2 "_law_take" (spTake K)) (cO : Cal P w K mg base 3 "_law_odd_thing" (spOdd K)) : ∀ n, Cal P w K mg base (4 + n) "_law_bent" (spBent K n)
  | 0 => ok_bent0 D
  | c + 1 => by
    have cB := ok_bent D B cT cO c
    refine D.calU scBent (fun ds ⟨a, e, _⟩ => by rw [e]; rfl) fun f cdv A outer s H E hr => ⟨_, pss_cons (ps_if (pw_or (pt_not (pt_val (pe_callB call_isi (by rfl) B.isi PyProof.Rows.boot_isinstance (pa_cons (pv 1) (pa_cons (bt B.tup PyProof.Rows.boot_tuple) pa_nil)))))
        (pw_or (pt_cmpR (op_eqD hr.units) (pv 1) (pe_tup pa_nil) (by with_unfolding_all rfl)) (pw_or1 (pt_cmpR op_eq (pe_d cT hr (show 2 ≤ 4 + c by omega) (by rfl) (pa_cons (pv 0) (pa_cons pe_int pa_nil))) pe_int (nomark _))))).pt (pss_one (ps_ret (pe_d cO hr (show 3 ≤ 4 + c by omega) (by rfl) (pa_cons (pv 0) pa_nil)))) pss_nil)
      (pss_cons (ps_set (i := 2) scBent.nd rfl (.inl rfl) (pe_d cT hr (show 2 ≤ 4 + c by omega) (by rfl) (pa_cons (pv 0) (pa_cons (pe_callB call_len (by rfl) B.len PySem.boot_len (pa_cons (pv 1) pa_nil)) pa_nil))))
      (pss_cons (ps_set (i := 3) scBent.nd rfl (.inl rfl) (pe_d cT hr (show 2 ≤ 4 + c by omega) (by rfl) (pa_cons (pv 0) (pa_cons pe_int pa_nil))))
      (pss_cons (ps_if (pt_cmpR op_eq (pv 3) pe_int (nomark _)) (pss_one (ps_ret (pe_op op_catA (pe_slice sl_tupA (pv 1) po_none (po_some (pv 2))) (pe_slice sl_tupA (pv 1) (po_some (pe_op op_add (pv 2) pe_int)) po_none)))) pss_nil)
      (pss_cons (ps_if (pt_cmpR op_eq (pv 3) pe_int (nomark _)) (pss_one (ps_ret (pe_op op_catA (pe_slice sl_tupA (pv 1) po_none (po_some (pe_op op_add (pv 2) pe_int))) (pe_slice sl_tupA (pv 1) (po_some (pv 2)) po_none)))) pss_nil)
      (pss_cons (ps_if (pt_cmpR op_eq (pv 3) pe_int (nomark _)) (pss_one (ps_ret (pe_callTy call_list_of (by rfl) B.list PyProof.Rows.boot_list (pa_cons (pv 1) pa_nil)))) pss_nil)
      (pss_cons (ps_if (pt_cmpR op_eq (pv 3) pe_int (nomark _))
        (pss_cons (ps_set (i := 4) scBent.nd rfl (.inl rfl) (pe_d cT hr (show 2 ≤ 4 + c by omega) (by rfl) (pa_cons (pv 0) (pa_cons (pe_callB call_len (by rfl) B.len PySem.boot_len (pa_cons (pv 1) pa_nil)) pa_nil))))
        (pss_cons (ps_set (i := 5) scBent.nd rfl (.inl rfl) (pe_callTy call_list_of (by rfl) B.list PyProof.Rows.boot_list (pa_cons (pv 1) pa_nil)))
        (pss_cons (ps_asg (pe_ix ix_tup (pv 1) (pv 4) (fun _ _ => rfl)) (pg_sub (pv 5) (pv 2) set_list))
        (pss_cons (ps_asg (pe_ix ix_tup (pv 1) (pv 2) (fun _ _ => rfl)) (pg_sub (pv 5) (pv 4) set_list))
        (pss_one (ps_ret (pe_callTy call_tuple_of (by rfl) B.tup PyProof.Rows.boot_tuple (pa_cons (pv 5) pa_nil)))))))) pss_nil)
      (pss_one (ps_ret (pe_op op_catA (pe_op op_catA (pe_slice sl_tupA (pv 1) po_none (po_some (pv 2))) (pe_tup (pa_cons (pe_d cB hr (Nat.le_refl _) (by rfl) (pa_cons (pv 0) (pa_cons (pe_ix ix_tup (pv 1) (pv 2) (fun _ _ => rfl)) pa_nil))) pa_nil))) (pe_slice sl_tupA (pv 1) (po_some (pe_op op_add (pv 2) pe_int)) po_none)))))))))), ?_⟩
    rintro p n ds ⟨a, rfl, hc, ha⟩
    have hm : Md a := md_up (by decide) _ _ _ hc ha
    have nd := gd_nd hm.gd
    obtain ⟨b, hb⟩ : ∃ b, b = n + 6 * c := ⟨_, rfl⟩
    rw [show n + 6 * (c + 1) = b + 6 from by omega]
    have odd : ∀ {e : Lw.Env} {k : Nat} {nx bk ct : Lw.Env → Prop}, n ≤ k → e[0]? = some (some (.prs p (k + 1))) → Run K (tRet (tCall (spOdd K) [] L2.E0 (tCons (tVar 0) tNil))) e ⟨nx, fun d e => (∃ m, n ≤ m ∧ e[0]? = some (some (.prs p m))) ∧ ∃ a', [a] = [a'] ∧ Grows a' d, bk, ct⟩ := fun {e k nx bk ct} hk he => run_ret (ev_callP (n := k) he ea_nil rfl fun d hd => ⟨⟨k, hk, by
      have hl : 0 < e.length := (List.getElem?_eq_some_iff.mp he).1
      rw [List.getElem?_set_self hl]⟩, a, rfl, grows_odd hd.1 hd.2⟩)
    cases ht : isTup a with
    | false =>
      exact run_seq (run_ifP (ept_or1 (et_is (ept_not (ept_b (isi_tup (ep_var rfl) nd))) (show (!isTup a) = true by rw [ht]; rfl))) (fun _ => odd (k := b + 5) (by omega) rfl) fun h => by cases h)
    | true =>
    obtain ⟨xs, rfl⟩ : ∃ ds, a = .tuple ds := by cases a <;> first | exact ⟨_, rfl⟩ | cases ht
    have lx := gd_len hm.gd
    have e1 : EvPT K (tNot (tB (tCB (rIsi K) (tCons (tVar 1) (tCons (tC (.ty "tuple")) tNil))))) [some (.prs p (b + 6)), some (.dat (.tuple xs)), none, none, none, none] false := et_is (ept_not (ept_b (isi_tup (ep_var rfl) nd))) rfl
    have e2 : EvPT K (tTest (tOp (rEqD K) (tVar 1) (tTup tNil))) [some (.prs p (b + 6)), some (.dat (.tuple xs)), none, none, none, none] (PyData.eqv (.tuple xs) (.tuple [])) := ept_test (ep_op (ep_var rfl) (ep_tup ea_nil (by decide)) (rd_eqD (gd_shaped hm.gd (by decide)) rfl))
    have hev : xs ≠ [] → PyData.eqv (.tuple xs) (.tuple []) = false := fun h => by
      cases xs with
      | nil => exact absurd rfl h
      | cons _ _ => rfl
    by_cases hx0 : xs = []
    · subst hx0
      exact run_seq (run_ifP (ept_or e1 fun _ => ept_or1 (et_is e2 rfl)) (fun _ => odd (k := b + 5) (by omega) rfl) fun h => by cases h)
    have hl1 : 1 ≤ xs.length := by
      cases xs with
      | nil => exact absurd rfl hx0
      | cons _ _ => rw [List.length_cons]; omega
    have e2' := et_is e2 (hev hx0)
    refine run_seq (run_if (et_or (e1.imp fun q e z => ?_)))
    obtain ⟨rfl, rfl⟩ := z
    refine et_or (e2'.imp fun q e z => ?_)
    obtain ⟨rfl, rfl⟩ := z
    rw [if_neg (by decide)]
    refine et_test (ev_op (ev_take (p := p) (n := b + 5) rfl (ea_cons ep_int ea_nil) (by decide) (by decide) (R := fun d e => (∃ g : Int, d = .int g) ∧ e = [some (.prs p (b + 5)), some (.dat (.tuple xs)), none, none, none, none]) fun g _ _ => ⟨⟨g, rfl⟩, rfl⟩) fun a e ⟨⟨g, ea⟩, ee⟩ => ?_)
    subst ea ee
    refine ep_int.imp fun b' e z => ?_
    obtain ⟨rfl, rfl⟩ := z
    refine ⟨_, rd_eqI, _, rfl, ?_⟩
    split
    · exact odd (k := b + 4) (by omega) rfl
    refine run_next ?_
    -- where, and how
    refine run_seq (run_set (ev_take (p := p) (n := b + 4) (far := (xs.length : Int)) rfl (ea_cons (ep_cb (ea_cons (ep_var rfl) ea_nil) (rc_len rfl)) ea_nil) (by omega) (by omega) fun g g0 g1 => ?_))
    obtain ⟨i, rfl⟩ : ∃ i : Nat, g = (i : Int) := ⟨g.toNat, by omega⟩
    have hi : i < xs.length := by omega
    refine run_seq (run_set (ev_take (p := p) (n := b + 3) rfl (ea_cons ep_int ea_nil) (by decide) (by decide) fun g _ _ => ?_))
    have hin : ∀ d, d ∈ xs.take i ∨ d ∈ xs.drop i ∨ d ∈ xs.take (i + 1) ∨ d ∈ xs.drop (i + 1) → d ∈ xs := fun d h => by
      rcases h with h | h | h | h
      · exact List.mem_of_mem_take h
      · exact List.mem_of_mem_drop h
      · exact List.mem_of_mem_take h
      · exact List.mem_of_mem_drop h
    refine (fun (h : ∀ e3 : Lw.Env, e3 = [some (.prs p (b + 3)), some (.dat (.tuple xs)), some (.dat (.int (i : Int))), some (.dat (.int g)), none, none] → Lw.Run K _ e3 _) => h _ rfl) fun e3 he3 => ?_
    have v1 : EvP K (tVar 1) e3 (.tuple xs) := by rw [he3]; exact ep_var rfl
    have v2 : EvP K (tVar 2) e3 (.int (i : Int)) := by rw [he3]; exact ep_var rfl
    have v2s : EvP K (tOp (rI0 fun i j => .int (i + j)) (tVar 2) (tC (.int 1))) e3 (.int ((i + 1 : Nat) : Int)) := ev_add v2 ep_int
    have v3 : EvP K (tVar 3) e3 (.int g) := by rw [he3]; exact ep_var rfl
    have cutT : ∀ {te : TE} {k : Nat}, k ≤ xs.length → EvP K te e3 (.int (k : Int)) → EvP K (tSl (rSlA K) (tVar 1) tNoPart (tPart te)) e3 (.tuple (xs.take k)) := fun {te k} hk h => ep_is (ep_sl v1 eo_none (eo_some h) rsl_tup) (congrArg PyData.tuple (cut_take xs k hk))
    have cutD : ∀ {te : TE} {k : Nat}, k ≤ xs.length → EvP K te e3 (.int (k : Int)) → EvP K (tSl (rSlA K) (tVar 1) (tPart te) tNoPart) e3 (.tuple (xs.drop k)) := fun {te k} hk h => ep_is (ep_sl v1 (eo_some h) eo_none rsl_tup) (congrArg PyData.tuple (cut_drop xs k hk))
    have done : ∃ m, n ≤ m ∧ e3[0]? = some (some (.prs p m)) := ⟨b + 3, by omega, by rw [he3]; rfl⟩
    -- left out
    refine run_seq (run_ifP (ept_test (ep_op v3 ep_int rd_eqI)) (fun _ => run_retP (ep_op (cutT (by omega) v2) (cutD (by omega) v2s) (rd_catT (by rw [List.length_take, List.length_drop]; omega))) ⟨done, _, rfl, grows_items (by rw [wA_app]; have := wA_take xs i; have := wA_drop xs (i + 1); omega) (by rw [List.length_append, List.length_take, List.length_drop]; omega) fun d hd => .inl (hin d (by
      rcases List.mem_append.mp hd with h | h
      · exact .inl h
      · exact .inr (.inr (.inr h))))⟩) fun _ => run_next ?_)
    -- put in twice
    refine run_seq (run_ifP (ept_test (ep_op v3 ep_int rd_eqI)) (fun _ => run_retP (ep_op (cutT (by omega) v2s) (cutD (by omega) v2) (rd_catT (by rw [List.length_take, List.length_drop]; omega))) ⟨done, _, rfl, grows_items (by rw [wA_app]; have := wA_take xs (i + 1); have := wA_drop xs i; omega) (by rw [List.length_append, List.length_take, List.length_drop]; omega) fun d hd => .inl (hin d (by
      rcases List.mem_append.mp hd with h | h
      · exact .inr (.inr (.inl h))
      · exact .inr (.inl h)))⟩) fun _ => run_next ?_)
    -- a list
    refine run_seq (run_ifP (ept_test (ep_op v3 ep_int rd_eqI)) (fun _ => run_retP (ep_cb (ea_cons v1 ea_nil) rc_lstT) ⟨done, _, rfl, grows_list (by omega) (by omega) fun d hd => .inl hd⟩) fun _ => run_next ?_)
    -- two exchanged
    refine run_seq (run_ifP (ept_test (ep_op v3 ep_int rd_eqI)) (fun _ => ?_) fun _ => run_next ?_)
    · subst he3
      refine run_seq (run_set (ev_take (p := p) (n := b + 2) (far := (xs.length : Int)) rfl (ea_cons (ep_cb (ea_cons (ep_var rfl) ea_nil) (rc_len rfl)) ea_nil) (by omega) (by omega) fun g' g0 g1 => ?_))
      obtain ⟨i', rfl⟩ : ∃ i' : Nat, g' = (i' : Int) := ⟨g'.toNat, by omega⟩
      have hi' : i' < xs.length := by omega
      refine run_seq (run_ownT (ep_var rfl) fun q => ?_)
      refine run_seq (run_setIP (d := xs[i']) (ep_op (ep_var rfl) (ep_var rfl) (rd_ixT (atI_nat (List.getElem?_eq_getElem hi')))) rfl (ep_var rfl) hi ?_)
      refine run_seq (run_setIP (d := xs[i]) (ep_op (ep_var rfl) (ep_var rfl) (rd_ixT (atI_nat (List.getElem?_eq_getElem hi)))) rfl (ep_var rfl) (by rw [List.length_set]; exact hi') ?_)
      refine run_retP (ep_tupOwn rfl) ⟨⟨b + 2, by omega, rfl⟩, _, rfl, grows_items (by
        have g1 := wA_set (xs.set i xs[i']) i' xs[i]
        have g2 := wA_set xs i xs[i']
        have g3 := wA_get xs i hi
        have g4 := wA_get xs i' hi'
        omega) (by rw [List.length_set, List.length_set]; omega) fun d hd => .inl ?_⟩
      rcases List.mem_or_eq_of_mem_set hd with h | h
      · rcases List.mem_or_eq_of_mem_set h with h | h
        · exact h
        · rw [h]; exact List.getElem_mem hi'
      · rw [h]; exact List.getElem_mem hi
    -- one bent
    obtain ⟨k, rfl, hlk, hxk⟩ := md_tup ha
    obtain ⟨e4, he4⟩ : ∃ e4 : Lw.Env, e4 = [some (.prs p (n + 3)), some (.dat (.tuple xs)), some (.dat (.int (i : Int))), some (.dat (.int g)), none, none] := ⟨_, rfl⟩
    have hxi : md 90 k xs[i] = true := hxk _ (List.getElem_mem hi)
    refine run_ret (ev_op (Pa := fun d e => ∃ r, d = .tuple (xs.take i ++ [r]) ∧ Grows xs[i] r ∧ e = e4) (ev_op (cutT (by omega) v2) fun a e z => ?_) fun a e ⟨r, ea, hg, ee⟩ => ?_)
    · obtain ⟨rfl, rfl⟩ := z
      refine ev_tup (Pa := fun ds e => ∃ r, ds = [r] ∧ Grows xs[i] r ∧ e = e4) (ev_cons (ev_callP (cost := 6 * (k + 1)) (p := p) (n := n + 3) (by rw [he3, hb]; exact congrArg (fun m => some (some (Val.prs p m))) (by omega)) (ea_cons (ep_op v1 v2 (rd_ixT (atI_nat (List.getElem?_eq_getElem hi)))) ea_nil) ⟨_, rfl, by omega, hxi⟩ (R := fun d e => Grows xs[i] d ∧ e = e4) fun d ⟨a', ea', hg⟩ => ?hk) fun r e ⟨hg, ee⟩ => ea_nil.imp fun as e' z => ?hc) fun ds e z => ?ht
      case hk =>
        cases ea'
        exact ⟨hg, by rw [he3, he4]; rfl⟩
      case hc =>
        obtain ⟨rfl, rfl⟩ := z
        exact ⟨r, rfl, hg, ee⟩
      case ht =>
        obtain ⟨r, rfl, hg, ee⟩ := z
        exact ⟨by simp, .tuple (xs.take i ++ [r]), rd_catT (by rw [List.length_take, List.length_singleton]; omega), r, rfl, hg, ee⟩
    · subst ea ee
      have w1 : EvP K (tVar 1) e (.tuple xs) := by rw [he4]; exact ep_var rfl
      have w2' : EvP K (tVar 2) e (.int (i : Int)) := by rw [he4]; exact ep_var rfl
      have w2 : EvP K (tOp (rI0 fun i j => .int (i + j)) (tVar 2) (tC (.int 1))) e (.int ((i + 1 : Nat) : Int)) := ev_add w2' ep_int
      refine (ep_is (ep_sl w1 (eo_some w2) eo_none rsl_tup) (congrArg PyData.tuple (cut_drop xs (i + 1) (by omega)))).imp fun d e' z => ?_
      obtain ⟨rfl, rfl⟩ := z
      refine ⟨.tuple (xs.take i ++ [r] ++ xs.drop (i + 1)), rd_catT (by rw [List.length_append, List.length_take, List.length_drop, List.length_singleton]; omega), ⟨n + 3, by omega, by rw [he4]; rfl⟩, _, rfl, grows_items (by
        have g1 := wA_get xs i hi
        have g2 := hg.2
        rw [wA_app, wA_app, show PyData.weightAll [r] = r.weight + 1 from rfl]
        omega) (by rw [List.length_append, List.length_append, List.length_take, List.length_drop, List.length_singleton]; omega) fun d hd => ?_⟩
      rcases List.mem_append.mp hd with h | h
      · rcases List.mem_append.mp h with h | h
        · exact .inl (List.mem_of_mem_take h)
        · have : d = r := List.mem_singleton.mp h
          subst this
          exact .inr ⟨_, List.getElem_mem hi, hg⟩
      · exact .inl (List.mem_of_mem_drop h)
end
end Nt

set_option Elab.async false
set_option linter.all false
set_option autoImplicit false
set_option maxRecDepth 100000
set_option maxHeartbeats 8000000
/-! The law's purse. -/
namespace Lw
open PySem PySem.Spec PyProof.Rows L2
section
variable {K : PySem.W.Frag} {tt : TT} {ta tb : TA}
theorem startD {I H : Hp} {N : List Str} {vs : List V} {ds : List PyData} (hI : Ex I H) (hvs : DqAll K I vs ds) : EnvI K H I I (start N vs) H (ds.map (fun d => some (.dat d)) ++ List.replicate (N.length - ds.length) none) := by
  have hl := dpA_len hvs
  have hst : start N vs = vs.map some ++ List.replicate (N.length - vs.length) none := rfl
  refine ⟨Ex.refl H, Ex.refl I, hI, fun _ _ h => h, by rw [hst]; simp [hl], fun i x e => ?_, fun i j x y _ hi _ cx _ => ?_⟩
  · by_cases z : i < ds.length
    · rw [List.getElem?_append_left (by simpa using z), List.getElem?_map, List.getElem?_eq_getElem z] at e
      have e' : x = .dat ds[i] := by simpa using e.symm
      subst e'
      obtain ⟨v, hv, hd⟩ := dpA_get hvs (List.getElem?_eq_getElem z)
      refine ⟨v, ?_, hd⟩
      rw [hst, List.getElem?_append_left (by simpa [hl] using z), List.getElem?_map, hv]
      rfl
    · rw [List.getElem?_append_right (by simpa using z), List.getElem?_replicate] at e
      split at e <;> cases e
  · exfalso
    by_cases z : i < ds.length
    · rw [List.getElem?_append_left (by simpa using z), List.getElem?_map, List.getElem?_eq_getElem z] at hi
      have e' : x = .dat ds[i] := by simpa using hi.symm
      subst e'
      cases cx
    · rw [List.getElem?_append_right (by simpa using z), List.getElem?_replicate] at hi
      split at hi <;> cases hi
def PurseD (n : Nat) (as : List PyData) : Prop := ∃ a b c : Int, as = [.int a, .int b, .int c] ∧ 0 ≤ a ∧ a < 2 ^ 2100 ∧ 0 ≤ b ∧ b + n ≤ 2 ^ 60 ∧ 0 ≤ c ∧ c + n ≤ 2 ^ 80
theorem body_Pu {n : Nat} {Pre : List PyData → Prop} {N : List Str} {vs : List V} {H : Hp} {Q : VK} {E : XK} (h : spPu K n Pre vs H Q E)
    (hb : ∀ ds, Pre ds → ∃ b, EvPT K tt (ds.map (fun d => some (.dat d)) ++ List.replicate (N.length - ds.length) none) b ∧
      (b = true → EvA K ta (ds.map (fun d => some (.dat d)) ++ List.replicate (N.length - ds.length) none) fun as _ => PurseD n as) ∧
      (b = false → EvA K tb (ds.map (fun d => some (.dat d)) ++ List.replicate (N.length - ds.length) none) fun as _ => PurseD n as)) :
    (tSeq (tIfS tt (tRet (tLst ta)) tNext) (tRet (tLst tb))) { nx := fun _ H' => Q .non H', rt := Q } (start N vs) H := by
  obtain ⟨I, ds, hI, hvs, hp, k⟩ := h
  have E0 := startD (N := N) hI hvs
  obtain ⟨b, h1, h2, h3⟩ := hb ds hp
  have fin : ∀ {I1 H1 : Hp} {e : Env} {xs : List V} {as : List PyData}, EnvI K H I I1 (start N vs) H1 e → DqAll K I1 xs as → PurseD n as → xs.length ≤ sizeLine ∧ ∀ p, H1 p = none → Q (.ref p) (upd H1 p (.lst xs)) := fun {I1 H1 e xs as} E1 hxs ⟨a, b, c, ea, r⟩ => by
    subst ea
    cases hxs with
    | cons x1 hxs => cases hxs with
      | cons x2 hxs => cases hxs with
        | cons x3 hxs =>
          cases hxs
          cases dp_int x1
          cases dp_int x2
          cases dp_int x3
          exact ⟨by show 3 ≤ _; decide, fun p hp => k p _ I1 _ (E1.fh.back hp) (E1.ih.back hp) E1.oi (E1.ih.trans (Ex.new hp)) (E1.fh.trans (Ex.new hp)) E1.fr upd_same ⟨a, b, c, rfl, r⟩⟩
  refine h1 H I I (start N vs) H E0 _ fun I1 H1 b' e E1 x1 ⟨e1, e2⟩ => ?_
  subst e1 e2
  cases b' with
  | true =>
    rw [if_pos rfl]
    exact h2 rfl H I I1 (start N vs) H1 E1 _ fun xs I2 H2 as e2 E2 x2 hxs q => fin E2 hxs q
  | false =>
    rw [if_neg Bool.false_ne_true]
    exact h3 rfl H I I1 (start N vs) H1 E1 _ fun xs I2 H2 as e2 E2 x2 hxs q => fin E2 hxs q
end
end Lw
namespace Nt
open PySem PySem.Spec PyProof.Rows L2 Lw
def CPowB (i j : Int) : Prop := 0 ≤ j ∧ (Builtin.Int.intBits i : Int) * j ≤ 2 ^ 27
theorem op_powB {X : Cx} : OpR X (binaryOp .Pow) (rI CPowB fun i j => .int (i ^ j.toNat)) := opI fun _ _ _ _ _ _ _ hc q => pow_int hc.1 hc.2 q
section
variable {P : Program} {w : World} {K : PySem.W.Frag} {mg : Str → Option Value} {base : Heap} {env : Lw.Env} {te ta tb : TE} {d : PyData} {tr : TA}
theorem scPurse : FnScope ["_law_cell", "_law_k"] ["_law_cell", "_law_k"] (defScope sPurse) := ⟨rfl, rfl, rfl, by decide +kernel, rfl, by decide +kernel, by decide +kernel⟩
abbrev spPurse (K : PySem.W.Frag) : Sp := spPu K 10000 fun ds => ∃ c k : Int, ds = [.int c, .int k] ∧ 0 ≤ k ∧ k ≤ 1000
theorem ok_purse (D : DefAt K mg "_law_purse" sPurse ["_law_cell", "_law_k"]) (cM : Cal P w K mg base 1 "_law_mixed" (spMixed K)) : Cal P w K mg base 2 "_law_purse" (spPurse K) := by
  refine D.cal scPurse (fun vs H Q E ⟨I, ds, _, hv, ⟨c, k, e, _⟩, _⟩ => by rw [dpA_len hv, e]; rfl) fun f cdv A outer s H vs Q E hr h => ⟨_, pss_cons (ps_if (pt_cmpR op_ge (pv 0) (pe_op op_pow pe_int pe_int) (nomark _)) (pss_one (ps_ret (pe_lst (pa_cons (pe_op op_mod (pe_op op_sub (pv 0) (pe_op op_pow pe_int pe_int)) (pe_op op_powB (pe_op op_pow pe_int pe_int) pe_int)) (pa_cons pe_int (pa_cons (pv 1) pa_nil)))))) pss_nil)
    (pss_one (ps_ret (pe_lst (pa_cons (pe_d cM hr (by decide) (by rfl) (pa_cons (pv 0) (pa_cons (pv 1) pa_nil))) (pa_cons pe_int (pa_cons (pe_op op_add (pe_op op_mod (pv 0) (pe_op op_add (pe_op op_pow pe_int pe_int) pe_int)) (pv 1)) pa_nil)))))), body_Pu h fun ds hds => ?_⟩
  obtain ⟨c, k, rfl, hk0, hk1⟩ := hds
  refine ⟨_, ept_test (ep_op (ep_var rfl) pw18 rd_IB), fun hc => ?_, fun hc => ?_⟩
  · refine (ea_cons (ev_mod (ev_sub (ep_var rfl) pw18) (ep_op pw60 ep_int (rd_I ⟨by decide, by decide +kernel⟩)) (by decide +kernel)) (ea_cons ep_int (ea_cons (ep_var rfl) ea_nil))).imp fun as e z => ?_
    obtain ⟨rfl, rfl⟩ := z
    refine ⟨_, _, _, rfl, Int.emod_nonneg _ (by decide +kernel), Int.lt_trans (Int.emod_lt_of_pos _ (by decide +kernel)) (by decide +kernel), by decide, by decide, hk0, by omega⟩
  · refine ev_cons (ev_call ((ea_cons (ep_var rfl) (ea_cons (ep_var rfl) ea_nil)).imp fun ds e z => ?_) (R := fun d e => (∃ m : Int, d = .int m ∧ 0 ≤ m ∧ m < M60) ∧ e = [some (.dat (.int c)), some (.dat (.int k))])) fun a e ⟨⟨m, ea, h0, h1⟩, ee⟩ => ?_
    · obtain ⟨rfl, rfl⟩ := z
      exact ⟨⟨c, k, rfl, by omega⟩, fun d ⟨m, em, h0, h1⟩ => ⟨⟨m, em, h0, h1⟩, rfl⟩⟩
    · subst ea ee
      refine (ea_cons ep_int (ea_cons (ev_add (ev_mod (ep_var rfl) (ev_add pw18 ep_int) (by decide)) (ep_var rfl)) ea_nil)).imp fun as e z => ?_
      obtain ⟨rfl, rfl⟩ := z
      have r0 : 0 ≤ c % (1000000000000000000 + 9) := Int.emod_nonneg _ (by decide)
      have r1 : c % (1000000000000000000 + 9) < (1000000000000000000 + 9) := Int.emod_lt_of_pos _ (by decide)
      refine ⟨_, _, _, rfl, h0, Int.lt_trans h1 (by decide +kernel), by decide, by decide, ?_, ?_⟩
      · omega
      · have : c % (1000000000000000000 + 9) + k ≤ 2 ^ 70 := by omega
        omega
end
end Nt

set_option Elab.async false
set_option linter.all false
set_option autoImplicit false
set_option maxRecDepth 100000
set_option maxHeartbeats 8000000
/-! str(x) of data. -/
namespace Lw
open PySem PySem.Spec PyProof.Rows L2
def strD : PyData → Str
  | .str z => z
  | d => d.shown
structure StrOk (d : PyData) : Prop where
  sh : d.showable = true
  nd : d.hasDict = false
  dp : d.depth ≤ 60
  ln : d.shown.length ≤ sizeLine
def rStrD (K : PySem.W.Frag) : List V → Hp → VK → Prop := fun xs H Q => ∃ x d, xs = [x] ∧ Dp K H x d ∧ StrOk d ∧ Q (.str (strD d)) H
theorem call_strD {X : Cx} (hg : X.A.guards = some []) (hu : X.A.units + 64 < cLine) : CallR X (.type "str") (rStrD X.K) := by
  intro pins s σ H xs us Q I r h
  obtain ⟨x, d, rfl, hd, ok, q⟩ := h
  cases r with
  | cons r0 r2 =>
  cases r2
  rename_i u
  have h2 : ∀ a, u = .ref a → (∀ z, d ≠ .str z) → wpAny (model X.prog X.w) X.A (call (.type "str") [.ref a]) (EP X pins σ Q) X.xe s := fun a e hn => by
    subst e
    obtain ⟨as, rr⟩ := Dp.reads I d x _ hd r0
    have e2 : strD d = d.shown := by
      unfold strD
      split
      · rename_i z
        exact absurd rfl (hn z)
      · rfl
    rw [e2] at q
    exact str_of_reads rr ok.sh (PyData.noDict_hsm ok.nd) hg (by have := ok.dp; omega) (fun _ _ e => e) (fun h' u tk hk => ⟨.str _, H, I.kept hk, ⟨_, rfl⟩, q⟩) ok.ln
  cases hd with
  | non =>
    obtain rfl : u = Value.none := r0
    exact P.str_of_none ⟨.str _, H, I.tok _, ⟨_, rfl⟩, q⟩
  | bl b =>
    obtain rfl : u = Value.bool b := r0
    exact P.str_of_bool ⟨.str _, H, I.tok _, ⟨_, rfl⟩, q⟩
  | int i =>
    obtain ⟨t, rfl⟩ := r0
    exact P.str_of_int (by simpa [PyData.showable] using ok.sh) ⟨.str _, H, I.tok _, ⟨_, rfl⟩, q⟩
  | str z =>
    obtain ⟨t, rfl⟩ := r0
    exact P.str_of_str ⟨.str _, H, I, ⟨_, rfl⟩, q⟩
  | lst h1 h3 =>
    obtain rfl : u = Value.ref _ := r0
    exact h2 _ rfl fun z e => by cases e
  | tup h1 h3 =>
    obtain rfl : u = Value.ref _ := r0
    exact h2 _ rfl fun z e => by cases e
theorem ep_strD {K : PySem.W.Frag} {te : TE} {env : Env} {d : PyData} (h : EvP K te env d) (ok : StrOk d) : EvP K (tCB (rStrD K) (tCons te tNil)) env (.str (strD d)) := fun F I0 I σ H E Q q =>
  h F I0 I σ H E _ fun v I1 H1 d e E1 x1 hd ⟨e1, e2⟩ => by
    subst e1 e2
    exact ⟨v, _, rfl, (dp_mono E1.ih hd).dp, ok, q _ I1 H1 _ _ E1 x1 (.str _) ⟨rfl, rfl⟩⟩
end Lw

set_option Elab.async false
set_option linter.all false
set_option autoImplicit false
set_option maxRecDepth 100000
set_option maxHeartbeats 8000000
/-! The law's data can be written out. -/
namespace Nt
open PySem PySem.Spec PyProof.Rows L2 Lw
mutual
theorem md_short {m : Nat} : ∀ (n : Nat) (d : PyData), md m n d = true → d.showable = true ∧ d.intsShort 13 = true ∧ d.hasDict = false
  | n, .none, _ => ⟨rfl, rfl, rfl⟩
  | n, .bool _, _ => ⟨rfl, rfl, rfl⟩
  | n, .int i, h => by
    have q := md_int h
    refine ⟨?_, ?_, rfl⟩
    · show decide (i.natAbs.log2 < 1920) = true
      refine decide_eq_true ?_
      by_cases h0 : i.natAbs = 0
      · rw [h0]; decide
      · exact (Nat.log2_lt h0).mpr (Nat.lt_of_le_of_lt q (by decide +kernel))
    · exact decide_eq_true (PyData.shown_int_le (Nat.lt_of_le_of_lt q (by decide)))
  | n, .str z, _ => ⟨rfl, rfl, rfl⟩
  | 0, .list _, h => by simp [md] at h
  | 0, .tuple _, h => by simp [md] at h
  | 0, .dict _, h => by simp [md] at h
  | n + 1, .dict _, h => by simp [md] at h
  | n + 1, .list ds, h => by
    simp only [md, Bool.and_eq_true, decide_eq_true_eq] at h
    exact md_shorts n ds h.2
  | n + 1, .tuple ds, h => by
    simp only [md, Bool.and_eq_true, decide_eq_true_eq] at h
    exact md_shorts n ds h.2
theorem md_shorts {m : Nat} : ∀ (n : Nat) (ds : List PyData), ds.all (md m n) = true → PyData.showableAll ds = true ∧ PyData.intsShortAll 13 ds = true ∧ PyData.hasDictAll ds = false
  | _, [], _ => ⟨rfl, rfl, rfl⟩
  | n, d :: ds, h => by
    simp only [List.all_cons, Bool.and_eq_true] at h
    obtain ⟨h1, h2, h3⟩ := md_short n d h.1
    obtain ⟨g1, g2, g3⟩ := md_shorts n ds h.2
    refine ⟨?_, ?_, ?_⟩
    · rw [PyData.showableAll, h1, g1]; rfl
    · rw [PyData.intsShortAll, h2, g2]; rfl
    · rw [PyData.hasDictAll, h3, g3]; rfl
end
theorem md_strOk {d : PyData} (h : Md d) (hw : d.weight ≤ 2 ^ 20) : StrOk d := by
  obtain ⟨h1, h2, h3⟩ := md_short 20 d h
  obtain ⟨h4, h5⟩ := gd_lay 20 d h.gd
  refine ⟨h1, h3, by omega, ?_⟩
  have := PyData.shown_le 13 (by decide) d (PyData.leavesShort_of_canLay0 13 d h4 h2)
  have e : (2 : Nat) ^ 20 = 1048576 := by decide
  have e2 : sizeLine = 16777216 := by decide
  omega
theorem texts_size : ∀ z ∈ texts, z.cps.size ≤ 9 := by decide +kernel
theorem wA_bound {c : Nat} : ∀ ds : List PyData, (∀ d ∈ ds, d.weight ≤ c) → PyData.weightAll ds ≤ ds.length * (c + 1)
  | [], _ => by simp [PyData.weightAll]
  | d :: ds, h => by
    have h1 := h d List.mem_cons_self
    have h2 := wA_bound ds fun x hx => h x (List.mem_cons_of_mem _ hx)
    rw [PyData.weightAll, List.length_cons, Nat.succ_mul]
    omega
theorem part_weight {q : Str × Int} (h : q.1 ∈ menu) (h2 : q.2.natAbs ≤ 1000000000) : (partD q).weight ≤ 41 := by
  have h1 := texts_size q.1 (List.mem_append_left _ h)
  have h3 : (PyData.int q.2).weight ≤ 30 := by
    rw [PyData.weight]
    split
    · decide
    · rename_i hz
      have h0 : q.2.natAbs ≠ 0 := fun e => hz (by
        have : q.2 = 0 := Int.natAbs_eq_zero.mp e
        rw [this]; rfl)
      have := (Nat.log2_lt h0).mpr (Nat.lt_of_le_of_lt h2 (by decide : 1000000000 < 2 ^ 30))
      omega
  show PyData.weightAll [.str q.1, .int q.2] ≤ 41
  rw [PyData.weightAll, PyData.weightAll, PyData.weightAll, PyData.weight]
  omega
theorem net_weight {qs : List (Str × Int)} {fs : List Fire} (h : NetOk qs fs) : (netD qs fs).weight ≤ 5000 := by
  have lq := h.le
  have lf := h.fl
  have ps_w : ∀ {ps : List (Str × Int)}, PartsOk (qs.map (·.1)) ps → (PyData.tuple (ps.map partD)).weight ≤ 252 := fun {ps} hp => by
    have hl := hp.1.length_le
    rw [List.length_map, List.length_map] at hl
    have := wA_bound (c := 41) (ps.map partD) fun d hd => by
      obtain ⟨q, hq, rfl⟩ := List.mem_map.mp hd
      exact part_weight (h.names.2 _ (hp.1.subset (List.mem_map.mpr ⟨q, hq, rfl⟩))) (by have := hp.2 q hq; omega)
    rw [List.length_map] at this
    rw [PyData.weight]
    omega
  have h1 : PyData.weightAll (qs.map partD) ≤ 252 := by
    have := wA_bound (c := 41) (qs.map partD) fun d hd => by
      obtain ⟨q, hq, rfl⟩ := List.mem_map.mp hd
      exact part_weight (h.names.2 _ (List.mem_map.mpr ⟨q, hq, rfl⟩)) (by have := h.cnt q hq; omega)
    rw [List.length_map] at this
    omega
  have h2 : PyData.weightAll (fs.map fireD) ≤ 5 * 600 := by
    have := wA_bound (c := 599) (fs.map fireD) fun d hd => by
      obtain ⟨f, hf, rfl⟩ := List.mem_map.mp hd
      obtain ⟨g1, g2, g3⟩ := h.fo f hf
      have s1 := texts_size f.1 (List.mem_append_left _ (h.fn.2 _ (List.mem_map.mpr ⟨f, hf, rfl⟩)))
      have s2 : f.2.1.cps.size ≤ 9 := texts_size f.2.1 (by
        rcases g1 with e | e | e
        · rw [e]; decide +kernel
        · rw [e]; decide +kernel
        · exact List.mem_append_left _ e)
      have s3 := ps_w g2
      have s4 := ps_w g3
      show PyData.weightAll [.str f.1, .str f.2.1, .tuple (f.2.2.1.map partD), .tuple (f.2.2.2.map partD)] ≤ 599
      rw [PyData.weightAll, PyData.weightAll, PyData.weightAll, PyData.weightAll, PyData.weightAll, show (PyData.str f.1).weight = f.1.cps.size from by rw [PyData.weight], show (PyData.str f.2.1).weight = f.2.1.cps.size from by rw [PyData.weight]]
      omega
    rw [List.length_map] at this
    omega
  show PyData.weightAll [.tuple (qs.map partD), .tuple (fs.map fireD)] ≤ 5000
  rw [PyData.weightAll, PyData.weightAll, PyData.weightAll, PyData.weight, PyData.weight]
  omega
end Nt

set_option Elab.async false
set_option linter.all false
set_option autoImplicit false
set_option maxRecDepth 100000
set_option maxHeartbeats 8000000
/-! The law's own def, called from the top: there nothing is being written out (no guards), which str(x) of nested data wants. -/
namespace Lw
open PySem PySem.Spec PyProof.Rows L2
/-- what a def's body makes at the top -/
def TopBody (P : Program) (w : World) (K : PySem.W.Frag) (mg : Str → Option Value) (N : List Str) (qual : Str) (scope : Scope) (body : List Stmt) (f : Addr) (cd : Value) (a : Addr) (ns : List Int) : Prop :=
  ∀ (base : Heap) (s : Shared) (H : Hp), Mod K mg base → SqL K H a (ns.map V.int) →
    ∃ t, PSs (cxOf CX0 P w K mg base N qual scope f cd callerA [] s H L2.E0).nox body t ∧ t { nx := fun _ _ => False, rt := fun v _ => v = .bl true } (start N [.ref a]) H
section
variable {P : Program} {w : World} {K : PySem.W.Frag} {mg mb : Str → Option Value} {f a : Addr} {fd : FuncData} {x qual name : Str} {s1 : Shared} {vs : List Value} {ns : List Int} {N : List Str} {params : Arguments} {body : List Stmt} {scope : Scope}
  {dV kV doc pm cd ct oc : Value} {an od : Option Addr} {osl : Array (Option Value)}
theorem top_at (lk : K.lookup f = some ⟨oc, od, .func (PySem.W.fnOf name qual params body scope dV kV doc pm an cd ct), osl⟩) (hcd : PySem.W.codeIn K cd qual = true) (S : FnScope N [x] scope)
    (hB : TopBody P w K mg N qual scope body f cd a ns) (bind : ∀ (s : Shared) (u : Value), BindsTo s (PySem.W.fnOf name qual params body scope dV kV doc pm an cd ct) ⟨[u], []⟩ [(x, u)])
    (kin : K.In s1.heap) (gl : s1.heap.Ns mainGlobals mg) (bl : s1.heap.Ns builtinsNs mb) (bb : ∀ x : Str, x ≠ "__name__" → mb x = bootBuiltins x) (lim : s1.heap.NoLimit) (gens : s1.gens = #[])
    (obj : s1.heap.get? a = some { cls := .type "list", data := .seq vs.toArray })
    (H : Hp) (sq : SqL K H a (ns.map V.int)) (hok : HOk P w H s1.heap) (at_ : ∀ b, H b ≠ none → b = a ∧ K.lookup b = none ∧ ∃ o u, H b = some (.frz o u)) :
    codeAny (model P w) callerA (.call (.ref f) ⟨[.ref a], []⟩) (fun r s' => r = .ok (.ret (.bool true)) ∧ OldK s1.heap s'.heap ∧ s'.os = s1.os ∧ AllBare s'.gens) s1 := by
  have room : callerA.depth < recursionLimit := by decide +kernel
  -- what is tracked is neither the module's own nor a dict
  have off : ∀ {b : Addr} {o : Obj}, s1.heap.get? b = some o → (K.lookup b ≠ none ∨ ∃ es ep, o.data = .dict es ep) → H b = none := fun {b o} g c => by
    cases q : H b with
    | none => rfl
    | some u =>
      obtain ⟨eb, ek, _⟩ := at_ b (by rw [q]; exact fun z => nomatch z)
      rcases c with c | ⟨es, ep, c⟩
      · exact (c ek).elim
      · subst eb
        rw [obj] at g
        obtain rfl := Option.some.inj g
        exact nomatch c
  have nsOff : ∀ {b : Addr} {m : Str → Option Value}, s1.heap.Ns b m → (hidT s1.heap H).Ns b m := fun ⟨o, es, ep, g, dd, rest⟩ => ⟨o, es, ep, hidT_get g (off g (.inr ⟨es, ep, dd⟩)), dd, rest⟩
  have mod : Mod K mg (hidT s1.heap H) := {
    kin := fun b o g => hidT_get (kin b o g) (off (kin b o g) (.inl (by rw [g]; exact fun z => nomatch z)))
    glob := nsOff gl
    blt := ⟨mb, nsOff bl, bb⟩
    nolimit := by
      obtain ⟨mc, l1, l2⟩ := lim
      exact ⟨mc, nsOff l1, l2⟩ }
  have env0 : Env0 P w K mg (hidT s1.heap H) callerA [] s1 H := {
    frames := rfl
    mod := mod
    bs := fun b o g => of_hidT g
    bsz := by rw [hidT_size]; exact Nat.le_refl _
    funs := trivial
    frf := fun b hb => (List.not_mem_nil hb).elim
    hok := hok
    bare := .of_eq gens }
  obtain ⟨t, ht, fin⟩ := hB _ s1 H mod sq
  refine codeAny_call_function room (kin _ _ lk) rfl S.co S.gen rfl (PySem.W.codeRec_of kin hcd) (bind s1 (.ref a) _ _ _ _ ?_)
  refine wpAny_newFunctionEnv_cells S.kind (fun y hy => ?_) fun e he s2 inc => ?_
  · obtain rfl : y = (x, Value.ref a) := List.mem_singleton.mp hy
    rcases S.par x List.mem_cons_self with l | c
    · exact Or.inl l
    · exact Or.inr ⟨c, PySem.W.cellsFrom_some _ _ _ (Or.inl c)⟩
  · cases he
    refine ⟨lim.keeps inc.toInCall.keep, codeAny_func ?_⟩
    have inv := inv_start (CX := CX0) (cd := cd) (f := f) (qual := qual) (E := L2.E0) (us := [.ref a]) (vs := [.ref a]) S rfl env0 rfl (.cons rfl .nil) inc
    refine wpAny_mono (ht.nox.run [] s2 _ H _ inv fin) (fun fl s3 z => ?_) fun e s3 z => wpAny_mono z (fun _ _ h => h.elim) fun _ _ h => h.elim
    cases fl with
    | ret u =>
      obtain ⟨v, σ2, H2, j, rv, ev⟩ := z
      subst ev
      obtain rfl : u = Value.bool true := rv
      refine ⟨rfl, OldK.of_keep fun b o g => ?_, j.os, j.bare⟩
      by_cases q : H b = none
      · exact j.base.keep b o g q List.not_mem_nil List.not_mem_nil
      · obtain ⟨_, _, o2, u2, q2⟩ := at_ b q
        have g1 : s1.heap.get? b = some o2 := (hok b _ q2).1
        have g2 : s3.heap.get? b = some o2 := (j.hok b _ (j.base.frzs b o2 u2 q2)).1
        rw [g1] at g
        obtain rfl := Option.some.inj g
        exact g2
    | next =>
      obtain ⟨_, _, _, n⟩ := z
      exact n.elim
    | brk =>
      obtain ⟨_, _, _, n⟩ := z
      exact n.elim
    | cont =>
      obtain ⟨_, _, _, n⟩ := z
      exact n.elim
end
end Lw

set_option Elab.async false
set_option linter.all false
set_option autoImplicit false
set_option maxRecDepth 100000
set_option maxHeartbeats 8000000
/-! What netWrong tells is small. -/
namespace Nt
open PySem PySem.Spec PyProof.Rows L2 Lw
theorem badAll_form (num : Str → Option Int) : ∀ (pss : List (List PyData)) (j : Int), badAll num j pss = .none ∨ ∃ i, badAll num j pss = .int i
  | [], _ => .inl rfl
  | ps :: r, j => by
    rw [badAll]
    cases badIn num j (-1) ps with
    | inl i => exact .inr ⟨i, rfl⟩
    | inr i => exact badAll_form num r i
theorem gd_one (z : Str) (h : okS z = true) : gd 1 (oneD z) = true := by
  unfold oneD gd
  simp only [List.all_cons, List.all_nil, Bool.and_true, Bool.and_eq_true, decide_eq_true_eq]
  exact ⟨by simp, by simpa [gd] using h⟩
theorem gd_two (z : Str) (h : okS z = true) (i : Int) : gd 1 (.tuple [.str z, .int i]) = true := by
  unfold gd
  simp only [List.all_cons, List.all_nil, Bool.and_true, Bool.and_eq_true, decide_eq_true_eq]
  exact ⟨by simp, by simpa [gd] using h, by simp [gd]⟩
theorem places_gd : ∀ (ps : List PyData) (k : Nat) (ah : List Str), gd 1 (placesWrong k ah ps) = true
  | [], _, _ => rfl
  | p :: ps, k, ah => by
    rw [placesWrong]
    split
    · exact gd_two "place" (by decide +kernel) _
    · exact places_gd ps _ _
theorem firings_gd (num : Str → Option Int) : ∀ (fs : List PyData) (k : Nat) (ah : List Str), gd 1 (firingsWrong num k ah fs) = true
  | [], _, _ => rfl
  | f :: fs, k, ah => by
    rw [firingsWrong]
    split
    · exact gd_two "firing" (by decide +kernel) _
    · split
      · exact firings_gd num fs _ _
      · have hs : okS "part" = true := by decide +kernel
        rcases badAll_form num [seqD (itemD f 2), seqD (itemD f 3)] 0 with h | ⟨i, h⟩
        · rw [badPart, h]
          unfold gd
          simp only [List.all_cons, List.all_nil, Bool.and_true, Bool.and_eq_true, decide_eq_true_eq]
          exact ⟨by simp, by simpa [gd] using hs, by simp [gd], by simp [gd]⟩
        · rw [badPart, h]
          unfold gd
          simp only [List.all_cons, List.all_nil, Bool.and_true, Bool.and_eq_true, decide_eq_true_eq]
          exact ⟨by simp, by simpa [gd] using hs, by simp [gd], by simp [gd]⟩
theorem wrong2_gd (ps fs : List PyData) : gd 1 (netWrong2 ps fs) = true := by
  obtain ⟨u, hu⟩ : ∃ u, (if isNoneD (placesWrong 0 [] ps) = true then firingsWrong (numOf (numKv ps)) 0 [] fs else placesWrong 0 [] ps) = u := ⟨_, rfl⟩
  have h : gd 1 u = true := by
    rw [← hu]
    split
    · exact firings_gd _ _ _ _
    · exact places_gd _ _ _
  have e : netWrong2 ps fs = if (isNoneD u && (decide (40 < (ps.length : Int)) || decide (60 < (fs.length : Int)))) = true then oneD "great" else u := by rw [← hu]; rfl
  rw [e]
  split
  · exact gd_one "great" (by decide +kernel)
  · exact h
theorem wrong_gd (a : PyData) : gd 1 (netWrong a) = true := by
  unfold netWrong
  split
  · split
    · exact gd_one "net" (by decide +kernel)
    · exact wrong2_gd _ _
  · exact gd_one "net" (by decide +kernel)
theorem wrong_shaped (a : PyData) : SeqAt.shaped (netWrong a) = true := gd_shaped (wrong_gd a) (by decide)
theorem wrong_eqv (a : PyData) : PyData.eqv (netWrong a) (netWrong a) = true := SeqAt.eqv_refl _ (gd_lay 1 _ (wrong_gd a)).1
end Nt

set_option Elab.async false
set_option linter.all false
set_option autoImplicit false
set_option maxRecDepth 100000
set_option maxHeartbeats 8000000
/-! The law. -/
namespace Lw
open PySem PySem.Spec PyProof.Rows L2
theorem rd_neS {K : PySem.W.Frag} {z u : Str} : RD K rNe (.str z) (.str u) (.bool (!decide (z = u))) := fun I H x y e hx hy Q q _ => by
  cases dp_str hx
  cases dp_str hy
  refine ⟨rfl, ?_⟩
  have h : decide (V.str z = V.str u) = decide (z = u) := by
    by_cases h : z = u
    · subst h
      simp
    · rw [decide_eq_false h, decide_eq_false fun q => h (V.str.inj q)]
  rw [h]
  exact q _ (.bl _)
/-- f(k = v): the def's only argument by its name -/
theorem pe_kw1 {X : Cx} {k j : Nat} {x y : Str} {st : Stmt} {sp : Sp} {p pos : Pos} {kws : List Keyword} {tk : TA} (c : CalF X.prog X.w X.K X.mg X.base k x st [y] sp) (hr : Room j X.A) (hk : k ≤ j) (hg : Gl X x)
    (hb : ∀ (kV doc pm : Value) (an : Option Addr) (cdv ct : Value), KBinds X.K (PySem.W.fnOf x x (defArgs st) (defBody st) (defScope st) .none kV doc pm an cdv ct) [y] [y] (· ++ ·) (· ++ ·)) (hkw : PK X kws tk)
    (hall : (backToKw pos (keywordEach kws X.env)).all (·.1.isSome) = true := by rfl) (hks : (backToKw pos (keywordEach kws X.env)).filterMap (·.1) = [y] := by rfl) (hdb : (x == ("__debug__" : Str)) = false := by decide)
    (hpl : ((backTo pos (starEach [] X.env)).any (·.1) || (backToKw pos (keywordEach kws X.env)).any (·.1.isNone)) = false := by rfl) : PE X (.Call (.Name x p) [] kws pos) (tCallK sp (· ++ ·) L2.E0 tNil tk) := by
  obtain ⟨f, fd, F, ok, hm, _⟩ := c.ex
  obtain ⟨oc, od, kV, doc, pm, an, cdv, ct, osl, e, lk, hcd⟩ := F.ex
  subst e
  exact pe_callK0 (ok.mono hk) hr hg hm F.kp (hb kV doc pm an cdv ct) L2.pass0 hkw hall hks hdb hpl
section
variable {K : PySem.W.Frag} {tr : TA} {env : Env} {as : List PyData} {c : PyData}
theorem ep_callKD {Pre : List PyData → Prop} {Ps : List PyData → PyData → Prop} {E0 : XK} (h : EvPA K tr env as) (hp : Pre as) (hk : ∀ d, Ps as d → d = c) : EvP K (tCallK (spD K Pre Ps) (· ++ ·) E0 tNil tr) env c := fun F I0 I σ H E Q q =>
  h F I0 I σ H E _ fun vs I1 H1 ds e E1 x1 hvs ⟨z1, z2⟩ => by
    subst z1
    obtain rfl : env = e := z2.symm
    exact ⟨I1, _, E1.ih, hvs, hp, fun v I2 H2 d a1 a2 a3 a4 hd hps => q v I2 H2 d _ (E1.called a1 a2 a3 a4) (x1.trans a1) hd ⟨hk d hps, rfl⟩⟩
end
end Lw
namespace Nt
open PySem PySem.Spec PyProof.Rows L2 Lw
/-- all that the law calls -/
structure Cals (P : Program) (w : World) (K : PySem.W.Frag) (mg : Str → Option Value) (base : Heap) : Prop where
  at_ : Cal P w K mg base 1 "_law_at" (spAt K)
  pu : Cal P w K mg base 2 "_law_purse" (spPurse K)
  net : Cal P w K mg base 6 "_law_net" (spLNet K)
  nw : CalF P w K mg base 6 "net_wrong" sNet ["thing"] (spNet K)
  take : Cal P w K mg base 2 "_law_take" (spTake K)
  bent : Cal P w K mg base 14 "_law_bent" (spBent K 10)
  due : Cal P w K mg base 3 "_law_due" (spLDue K)
abbrev nLaw : List Str := ["_law_script", "_law_k", "_law_purse_here", "_law_whole", "_law_turn", "_law_what", "_law_bend", "_law_held", "_law_due_here"]
theorem scLaw : FnScope nLaw ["_law_script"] (defScope sLaw) := ⟨rfl, rfl, rfl, by decide +kernel, rfl, by decide +kernel, by decide +kernel⟩
theorem kb_nw {K : PySem.W.Frag} (kV doc pm : Value) (an : Option Addr) (cdv ct : Value) : KBinds K (PySem.W.fnOf "net_wrong" "net_wrong" (defArgs sNet) (defBody sNet) (defScope sNet) .none kV doc pm an cdv ct) ["thing"] ["thing"] (· ++ ·) (· ++ ·) := by
  refine ⟨fun s us ws _ hl => ?_, fun r1 r2 => r1.append r2⟩
  have hl : (us ++ ws).length = 1 := hl
  rw [List.length_append] at hl
  match us, ws, hl with
  | [], [u], _ => exact .of_eq rfl
  | [u], [], _ => exact .of_eq rfl
theorem start_seq {K : PySem.W.Frag} {H : Hp} {a : Addr} {ns : List Int} (sq : SqL K H a (ns.map V.int)) : EnvI K H H H (start nLaw [.ref a]) H [some (.seq ns), none, none, none, none, none, none, none, none] := by
  refine ⟨Ex.refl H, Ex.refl H, Ex.refl H, fun _ _ h => h, rfl, fun i x e => ?_, fun i j x y hij hi hj cx cy => ?_⟩
  · match i, e with
    | 0, e =>
      have e' : x = .seq ns := by simpa using e.symm
      subst e'
      exact ⟨.ref a, rfl, a, rfl, sq⟩
    | 1, e | 2, e | 3, e | 4, e | 5, e | 6, e | 7, e | 8, e => simp at e
    | i + 9, e => simp at e
  · exfalso
    match i, hi with
    | 0, e =>
      have e' : x = .seq ns := by simpa using e.symm
      subst e'
      cases cx
    | 1, e | 2, e | 3, e | 4, e | 5, e | 6, e | 7, e | 8, e => simp at e
    | i + 9, e => simp at e
def lawW : Nat → Nat
  | 0 => 5000
  | n + 1 => 3 * lawW n + 40
theorem law_body {P : Program} {w : World} {K : PySem.W.Frag} {mg : Str → Option Value} {f a : Addr} {cd : Value} {ns : List Int} (B : Bi mg) (C : ∀ base, K.In base → Cals P w K mg base) : TopBody P w K mg nLaw "law" (defScope sLaw) (defBody sLaw) f cd a ns := fun base s H M sq => by
  have C := C base M.kin
  have hr : Room 14 (callerA.deeper (envOfC "law" (defScope sLaw) s.heap.objs.size f cd)) := ⟨rfl, by show callerA.depth + 1 + 3 * 14 + 5 < _; decide +kernel, by show callerA.units + 3 + 16 * 14 + 200 < _; decide +kernel⟩
  refine ⟨_, pss_cons (ps_for PassesOwn.never rfl (pi_range1 (by rfl) B.range (pa_cons (pe_op op_add pe_int (pe_callB (call_min2 rfl) (by rfl) B.min (by decide +kernel) (pa_cons (pe_callB call_len (by rfl) B.len PySem.boot_len (pa_cons (pv 0) pa_nil)) (pa_cons pe_int pa_nil)))) pa_nil)) (pg_name (i := 1) scLaw.nd rfl (.inl rfl))
      (pss_cons (ps_set (i := 2) scLaw.nd rfl (.inl rfl) (pe_d C.pu hr (by decide) (by rfl) (pa_cons (pe_d C.at_ hr (by decide) (by rfl) (pa_cons (pv 0) (pa_cons (pv 1) pa_nil))) (pa_cons (pv 1) pa_nil))))
      (pss_cons (ps_set (i := 3) scLaw.nd rfl (.inl rfl) (pe_d C.net hr (by decide) (by rfl) (pa_cons (pv 2) pa_nil)))
      (pss_cons (ps_if (pt_cmpR op_notN (pe_d C.nw.cal hr (by decide) (by rfl) (pa_cons (pv 3) pa_nil)) pe_non (nomark _)) (pss_one (ps_ret pe_bl)) pss_nil)
      (pss_one (ps_for PassesOwn.never rfl (pi_range1 (by rfl) B.range (pa_cons pe_int pa_nil)) (pg_name (i := 4) scLaw.nd rfl (.inl rfl))
        (pss_cons (ps_set (i := 5) scLaw.nd rfl (.inl rfl) (pv 3))
        (pss_cons (ps_for PassesOwn.never rfl (pi_range1 (by rfl) B.range (pa_cons (pe_op op_add pe_int (pe_d C.take hr (by decide) (by rfl) (pa_cons (pv 2) (pa_cons pe_int pa_nil)))) pa_nil)) (pg_name (i := 6) scLaw.nd rfl (.inl rfl)) (pss_one (ps_set (i := 5) scLaw.nd rfl (.inl rfl) (pe_d C.bent hr (by decide) (by rfl) (pa_cons (pv 2) (pa_cons (pv 5) pa_nil))))))
        (pss_cons (ps_set (i := 7) scLaw.nd rfl (.inl rfl) (pe_callTy (call_strD rfl hr.units) (by rfl) B.str PyProof.Rows.boot_str (pa_cons (pv 5) pa_nil)))
        (pss_cons (ps_set (i := 8) scLaw.nd rfl (.inl rfl) (pe_d C.due hr (by decide) (by rfl) (pa_cons (pv 5) pa_nil)))
        (pss_one (ps_if (pw_or (pt_cmpR (op_neD hr.units) (pe_d C.nw.cal hr (by decide) (by rfl) (pa_cons (pv 5) pa_nil)) (pv 8) (nomark _)) (pw_or (pt_cmpR (op_neD hr.units) (pe_kw1 C.nw hr (by decide) (by rfl) kb_nw (pk_cons (pv 5) pk_nil)) (pv 8) (nomark _)) (pw_or1 (pt_cmpR op_ne (pe_callTy (call_strD rfl hr.units) (by rfl) B.str PyProof.Rows.boot_str (pa_cons (pv 5) pa_nil)) (pv 7) (nomark _))))).pt (pss_one (ps_ret pe_bl)) pss_nil))))))))))))
    (pss_one (ps_ret pe_bl)), ?_⟩
  suffices h : Lw.Run K _ [some (.seq ns), none, none, none, none, none, none, none, none] ⟨fun _ => False, fun d _ => d = .bool true, fun _ => False, fun _ => False⟩ from
    h H H H _ H _ (start_seq sq) ⟨fun _ _ _ _ _ h => h.elim, fun v I' σ' H' d e _ hd h => by
      subst h
      exact dp_bl hd, fun _ _ _ _ _ h => h.elim, fun _ _ _ _ _ h => h.elim⟩
  refine run_seq (run_for (ew_rng1 (n := 2 + (if 4 < (ns.length : Int) then 4 else (ns.length : Int))) (by split <;> omega) (ea_cons (ep_op ep_int (ep_cb (ea_cons (ep_lenSeq rfl) (ea_cons ep_int ea_nil)) rc_min2) rd_I0) ea_nil)) (fun j e => ∃ x1 x2 x3 x4 x5 x6 x7 x8, e = [some (.seq ns), x1, x2, x3, x4, x5, x6, x7, x8]) ⟨_, _, _, _, _, _, _, _, rfl⟩ ?_ ?_)
  · rintro k d e hd ⟨x1, x2, x3, x4, x5, x6, x7, x8, rfl⟩
    have hk : k < 6 := by
      have := (List.getElem?_eq_some_iff.mp hd).1
      rw [intsD_len] at this
      split at this <;> omega
    have hkd : d = .int (k : Int) := by
      rw [intsD_get (by have := (List.getElem?_eq_some_iff.mp hd).1; rw [intsD_len] at this; exact this)] at hd
      have := Option.some.inj hd
      rw [← this, Int.zero_add]
    subst hkd
    refine tgt_name ?_
    refine run_seq (run_setPu (n := 10000) (ev_cons (ev_at rfl (ep_var rfl) (by omega)) fun a e ⟨ee, n, ea⟩ => ?_) fun p => ?_)
    · subst ea ee
      refine (ea_cons (ep_var rfl) ea_nil).imp fun as e z => ?_
      obtain ⟨rfl, rfl⟩ := z
      exact ⟨rfl, n, (k : Int), rfl, by omega, by omega⟩
    refine run_seq (run_set (ev_callP (p := p) (n := 9855) rfl ea_nil rfl fun d ⟨qs, fs, ed, hN⟩ => ?_))
    subst ed
    obtain ⟨whole, hwh, hw0, hm0, hwt⟩ : ∃ whole, netD qs fs = whole ∧ netWrong whole = .none ∧ md 6 5 whole = true ∧ whole.weight ≤ 5000 := ⟨_, rfl, net_none hN, net_md hN, net_weight hN⟩
    rw [hwh]
    have g0 : Md whole := md_up (by decide) _ _ _ (by decide) hm0
    refine run_seq (run_ifP (et_is (ept_test (ep_op (ep_callD (ea_cons (ep_var rfl) ea_nil) ⟨whole, rfl, g0.gd⟩ fun d ⟨a', e1, e2⟩ => by cases e1; exact e2) ep_non rd_notN)) (show (!isNoneD (netWrong whole)) = false by rw [hw0]; rfl)) (fun h => by cases h) fun _ => run_next ?_)
    refine run_for (ew_rng1 (n := 6) (by decide) (ea_cons ep_int ea_nil)) (fun t e => ∃ x4 x5 x6 x7 x8, e = [some (.seq ns), some (.dat (.int (k : Int))), some (.prs p (8655 + 200 * (6 - t))), some (.dat whole), x4, x5, x6, x7, x8]) ⟨_, _, _, _, _, rfl⟩ ?_ ?_
    · rintro t d e hd ⟨x4, x5, x6, x7, x8, rfl⟩
      have ht : t < 6 := by
        have := (List.getElem?_eq_some_iff.mp hd).1
        rw [intsD_len] at this
        omega
      obtain ⟨c, hc⟩ : ∃ c, c = 8655 + 200 * (6 - (t + 1)) := ⟨_, rfl⟩
      rw [show 8655 + 200 * (6 - t) = c + 200 from by omega]
      refine tgt_name (run_seq (run_setP (ep_var rfl) ?_))
      refine run_seq (run_forE (ewe_rng1 (ev_cons (ev_op ep_int fun a e z => ?_) fun a e (q : ∃ m : Nat, a = .int (m : Int) ∧ m ≤ 3 ∧ e = [some (.seq ns), some (.dat (.int (k : Int))), some (.prs p (c + 199)), some (.dat whole), some (.dat d), some (.dat whole), x6, x7, x8]) => ea_nil.imp fun as e' z => ?_)))
      · obtain ⟨rfl, rfl⟩ := z
        exact ev_take (p := p) (n := c + 199) rfl (ea_cons ep_int ea_nil) (by decide) (by decide) fun g g0 g1 => ⟨_, rd_I0, (1 + g).toNat, by rw [Int.toNat_of_nonneg (by omega)], by omega, rfl⟩
      obtain ⟨rfl, rfl⟩ := z
      obtain ⟨m, rfl, hm, rfl⟩ := q
      refine ⟨_, rfl, by omega, fun b e => ∃ x6 x7 x8 y, e = [some (.seq ns), some (.dat (.int (k : Int))), some (.prs p (c + 19 + 60 * (3 - b))), some (.dat whole), some (.dat d), some (.dat y), x6, x7, x8] ∧ md (6 + b) (5 + 2 * b) y = true ∧ y.weight ≤ lawW b, ⟨x6, x7, x8, whole, rfl, hm0, hwt⟩, ?_, ?_⟩
      · rintro b d' e hd' ⟨x6, x7, x8, y, rfl, hmy, hwy⟩
        have hb : b < m := by
          have := (List.getElem?_eq_some_iff.mp hd').1
          rw [intsD_len] at this
          omega
        obtain ⟨c2, hc2⟩ : ∃ c2, c2 = c + 19 + 60 * (3 - (b + 1)) := ⟨_, rfl⟩
        rw [show c + 19 + 60 * (3 - b) = c2 + 60 from by omega]
        refine tgt_name (run_set (ev_callP (cost := 60) (p := p) (n := c2) rfl (ea_cons (ep_var rfl) ea_nil) ⟨y, rfl, by decide, md_up (m := 6 + b) (m' := 90) (show 6 + b ≤ 90 by omega) (5 + 2 * b) 9 _ (show 5 + 2 * b ≤ 9 by omega) hmy⟩ fun r ⟨a', e1, hg⟩ => ?_))
        cases e1
        exact ⟨_, _, _, r, by rw [hc2]; rfl, hg.1 (6 + b) (5 + 2 * b) (show 2 ≤ 6 + b by omega) hmy, Nat.le_trans hg.2 (by show _ ≤ 3 * lawW b + 40; omega)⟩
      · rintro e ⟨x6, x7, x8, y, rfl, hmy, hwy⟩
        rw [intsD_len] at *
        have hm' : ((m : Int).toNat) = m := rfl
        rw [hm'] at *
        have hy : Md y := md_up (m := 6 + m) (m' := 100) (show 6 + m ≤ 100 by omega) (5 + 2 * m) 20 _ (show 5 + 2 * m ≤ 20 by omega) hmy
        have hwy' : y.weight ≤ 2 ^ 20 := Nat.le_trans hwy (by
          have : m = 0 ∨ m = 1 ∨ m = 2 ∨ m = 3 := by omega
          rcases this with rfl | rfl | rfl | rfl <;> decide)
        have ok := md_strOk hy hwy'
        refine run_seq (run_setP (ep_strD (ep_var rfl) ok) ?_)
        refine run_seq (run_setP (ep_callD (c := netWrong y) (ea_cons (ep_var rfl) ea_nil) ⟨y, rfl, hy⟩ fun d ⟨a', e1, e2⟩ => by cases e1; exact e2) ?_)
        have nw : ∀ {e : Lw.Env}, e[5]? = some (some (.dat y)) → EvP K (tCall (spNet K) [] L2.E0 (tCons (tVar 5) tNil)) e (netWrong y) := fun h => ep_callD (ea_cons (ep_var h) ea_nil) ⟨y, rfl, hy.gd⟩ fun d ⟨a', e1, e2⟩ => by cases e1; exact e2
        have nk : ∀ {e : Lw.Env}, e[5]? = some (some (.dat y)) → EvP K (tCallK (spNet K) (· ++ ·) L2.E0 tNil (tCons (tVar 5) tNil)) e (netWrong y) := fun h => ep_callKD (ea_cons (ep_var h) ea_nil) ⟨y, rfl, hy.gd⟩ fun d ⟨a', e1, e2⟩ => by cases e1; exact e2
        have ne : (!PyData.eqv (netWrong y) (netWrong y)) = false := by rw [wrong_eqv]; rfl
        refine run_less (i := 2) (p := p) (m := c) rfl (by omega) (run_ifP (ept_or (et_is (ept_test (ep_op (nw rfl) (ep_var rfl) (rd_neD (wrong_shaped y) (wrong_shaped y)))) ne) fun _ => ept_or (et_is (ept_test (ep_op (nk rfl) (ep_var rfl) (rd_neD (wrong_shaped y) (wrong_shaped y)))) ne) fun _ => et_is (ept_test (ep_op (ep_strD (ep_var rfl) ok) (ep_var rfl) rd_neS)) (show _ = false by simp)) (fun h => by cases h) fun _ => run_next ⟨_, _, _, _, _, by rw [hc]; rfl⟩)
    · rintro e ⟨x4, x5, x6, x7, x8, rfl⟩
      exact ⟨_, _, _, _, _, _, _, _, rfl⟩
  · rintro e ⟨x1, x2, x3, x4, x5, x6, x7, x8, rfl⟩
    exact run_retP ep_bl rfl
end Nt

set_option Elab.async false
set_option linter.all false
set_option autoImplicit false
set_option maxRecDepth 100000
set_option maxHeartbeats 8000000
/-! What the top has written. -/
namespace Nt
open PySem PySem.Spec PyProof.Rows L2 Lw
section
variable {P : Program} {w : World} {K : PySem.W.Frag} {mg : Str → Option Value} {base : Heap}
theorem defAt_mk {h : Heap} (X : K.In h) (G : h.Ns mainGlobals mg) {x : Str} {st : Stmt} {ps : List Str} {f : Addr} {oc kV dc pm cd ct : Value} {od an : Option Addr} {osl : Array (Option Value)}
    (a : PySem.W.nsIn K mainGlobals x = some (some (.ref f))) (l : K.lookup f = some ⟨oc, od, .func (PySem.W.fnOf x x (defArgs st) (defBody st) (defScope st) .none kV dc pm an cd ct), osl⟩) (c : PySem.W.codeIn K cd x = true) (k : PySem.W.keepIn K (.ref f) = true)
    (b : ∀ (kV doc pm : Value) (an : Option Addr) (cdv ct : Value) (us : List Value), us.length = ps.length → bindArgs (PySem.W.fnOf x x (defArgs st) (defBody st) (defScope st) .none kV doc pm an cdv ct) ⟨us, []⟩ = pure (ps.zip us)) : DefAt K mg x st ps := by
  have F := fun_mk (st := st) l c k
  exact ⟨f, _, F, PySem.W.mg_of X G a, F.binds b⟩
theorem bd_sWhole : ∀ (kV doc pm : Value) (an : Option Addr) (cdv ct : Value) (us : List Value), us.length = (["thing"] : List Str).length → bindArgs (PySem.W.fnOf "is_whole" "is_whole" (defArgs sWhole) (defBody sWhole) (defScope sWhole) .none kV doc pm an cdv ct) ⟨us, []⟩ = pure ((["thing"] : List Str).zip us) := fun _ _ _ _ _ _ us hl => match us, hl with | [_], _ => rfl
theorem bd_sName : ∀ (kV doc pm : Value) (an : Option Addr) (cdv ct : Value) (us : List Value), us.length = (["thing"] : List Str).length → bindArgs (PySem.W.fnOf "is_name" "is_name" (defArgs sName) (defBody sName) (defScope sName) .none kV doc pm an cdv ct) ⟨us, []⟩ = pure ((["thing"] : List Str).zip us) := fun _ _ _ _ _ _ us hl => match us, hl with | [_], _ => rfl
theorem bd_sTupOf : ∀ (kV doc pm : Value) (an : Option Addr) (cdv ct : Value) (us : List Value), us.length = (["thing", "many"] : List Str).length → bindArgs (PySem.W.fnOf "is_tuple_of" "is_tuple_of" (defArgs sTupOf) (defBody sTupOf) (defScope sTupOf) .none kV doc pm an cdv ct) ⟨us, []⟩ = pure ((["thing", "many"] : List Str).zip us) := fun _ _ _ _ _ _ us hl => match us, hl with | [_, _], _ => rfl
theorem bd_sCounted : ∀ (kV doc pm : Value) (an : Option Addr) (cdv ct : Value) (us : List Value), us.length = (["thing", "least"] : List Str).length → bindArgs (PySem.W.fnOf "is_counted" "is_counted" (defArgs sCounted) (defBody sCounted) (defScope sCounted) .none kV doc pm an cdv ct) ⟨us, []⟩ = pure ((["thing", "least"] : List Str).zip us) := fun _ _ _ _ _ _ us hl => match us, hl with | [_, _], _ => rfl
theorem bd_sParts : ∀ (kV doc pm : Value) (an : Option Addr) (cdv ct : Value) (us : List Value), us.length = (["thing"] : List Str).length → bindArgs (PySem.W.fnOf "is_parts" "is_parts" (defArgs sParts) (defBody sParts) (defScope sParts) .none kV doc pm an cdv ct) ⟨us, []⟩ = pure ((["thing"] : List Str).zip us) := fun _ _ _ _ _ _ us hl => match us, hl with | [_], _ => rfl
theorem bd_sFiring : ∀ (kV doc pm : Value) (an : Option Addr) (cdv ct : Value) (us : List Value), us.length = (["thing"] : List Str).length → bindArgs (PySem.W.fnOf "is_firing" "is_firing" (defArgs sFiring) (defBody sFiring) (defScope sFiring) .none kV doc pm an cdv ct) ⟨us, []⟩ = pure ((["thing"] : List Str).zip us) := fun _ _ _ _ _ _ us hl => match us, hl with | [_], _ => rfl
theorem bd_sNumbers : ∀ (kV doc pm : Value) (an : Option Addr) (cdv ct : Value) (us : List Value), us.length = (["named"] : List Str).length → bindArgs (PySem.W.fnOf "numbers_of" "numbers_of" (defArgs sNumbers) (defBody sNumbers) (defScope sNumbers) .none kV doc pm an cdv ct) ⟨us, []⟩ = pure ((["named"] : List Str).zip us) := fun _ _ _ _ _ _ us hl => match us, hl with | [_], _ => rfl
theorem bd_sNet : ∀ (kV doc pm : Value) (an : Option Addr) (cdv ct : Value) (us : List Value), us.length = (["thing"] : List Str).length → bindArgs (PySem.W.fnOf "net_wrong" "net_wrong" (defArgs sNet) (defBody sNet) (defScope sNet) .none kV doc pm an cdv ct) ⟨us, []⟩ = pure ((["thing"] : List Str).zip us) := fun _ _ _ _ _ _ us hl => match us, hl with | [_], _ => rfl
theorem bd_sPlaces : ∀ (kV doc pm : Value) (an : Option Addr) (cdv ct : Value) (us : List Value), us.length = (["places"] : List Str).length → bindArgs (PySem.W.fnOf "places_wrong" "places_wrong" (defArgs sPlaces) (defBody sPlaces) (defScope sPlaces) .none kV doc pm an cdv ct) ⟨us, []⟩ = pure ((["places"] : List Str).zip us) := fun _ _ _ _ _ _ us hl => match us, hl with | [_], _ => rfl
theorem bd_sFirings : ∀ (kV doc pm : Value) (an : Option Addr) (cdv ct : Value) (us : List Value), us.length = (["places", "firings"] : List Str).length → bindArgs (PySem.W.fnOf "firings_wrong" "firings_wrong" (defArgs sFirings) (defBody sFirings) (defScope sFirings) .none kV doc pm an cdv ct) ⟨us, []⟩ = pure ((["places", "firings"] : List Str).zip us) := fun _ _ _ _ _ _ us hl => match us, hl with | [_, _], _ => rfl
theorem bd_sBad : ∀ (kV doc pm : Value) (an : Option Addr) (cdv ct : Value) (us : List Value), us.length = (["numbers", "firing"] : List Str).length → bindArgs (PySem.W.fnOf "bad_part" "bad_part" (defArgs sBad) (defBody sBad) (defScope sBad) .none kV doc pm an cdv ct) ⟨us, []⟩ = pure ((["numbers", "firing"] : List Str).zip us) := fun _ _ _ _ _ _ us hl => match us, hl with | [_, _], _ => rfl
theorem bd_sMixed : ∀ (kV doc pm : Value) (an : Option Addr) (cdv ct : Value) (us : List Value), us.length = (["_law_cell", "_law_k"] : List Str).length → bindArgs (PySem.W.fnOf "_law_mixed" "_law_mixed" (defArgs sMixed) (defBody sMixed) (defScope sMixed) .none kV doc pm an cdv ct) ⟨us, []⟩ = pure ((["_law_cell", "_law_k"] : List Str).zip us) := fun _ _ _ _ _ _ us hl => match us, hl with | [_, _], _ => rfl
theorem bd_sPurse : ∀ (kV doc pm : Value) (an : Option Addr) (cdv ct : Value) (us : List Value), us.length = (["_law_cell", "_law_k"] : List Str).length → bindArgs (PySem.W.fnOf "_law_purse" "_law_purse" (defArgs sPurse) (defBody sPurse) (defScope sPurse) .none kV doc pm an cdv ct) ⟨us, []⟩ = pure ((["_law_cell", "_law_k"] : List Str).zip us) := fun _ _ _ _ _ _ us hl => match us, hl with | [_, _], _ => rfl
theorem bd_sTake : ∀ (kV doc pm : Value) (an : Option Addr) (cdv ct : Value) (us : List Value), us.length = (["_law_purse_here", "_law_far"] : List Str).length → bindArgs (PySem.W.fnOf "_law_take" "_law_take" (defArgs sTake) (defBody sTake) (defScope sTake) .none kV doc pm an cdv ct) ⟨us, []⟩ = pure ((["_law_purse_here", "_law_far"] : List Str).zip us) := fun _ _ _ _ _ _ us hl => match us, hl with | [_, _], _ => rfl
theorem bd_sAt : ∀ (kV doc pm : Value) (an : Option Addr) (cdv ct : Value) (us : List Value), us.length = (["_law_script", "_law_k"] : List Str).length → bindArgs (PySem.W.fnOf "_law_at" "_law_at" (defArgs sAt) (defBody sAt) (defScope sAt) .none kV doc pm an cdv ct) ⟨us, []⟩ = pure ((["_law_script", "_law_k"] : List Str).zip us) := fun _ _ _ _ _ _ us hl => match us, hl with | [_, _], _ => rfl
theorem bd_sPick : ∀ (kV doc pm : Value) (an : Option Addr) (cdv ct : Value) (us : List Value), us.length = (["_law_purse_here", "_law_some"] : List Str).length → bindArgs (PySem.W.fnOf "_law_pick" "_law_pick" (defArgs sPick) (defBody sPick) (defScope sPick) .none kV doc pm an cdv ct) ⟨us, []⟩ = pure ((["_law_purse_here", "_law_some"] : List Str).zip us) := fun _ _ _ _ _ _ us hl => match us, hl with | [_, _], _ => rfl
theorem bd_sNames : ∀ (kV doc pm : Value) (an : Option Addr) (cdv ct : Value) (us : List Value), us.length = ([] : List Str).length → bindArgs (PySem.W.fnOf "_law_names" "_law_names" (defArgs sNames) (defBody sNames) (defScope sNames) .none kV doc pm an cdv ct) ⟨us, []⟩ = pure (([] : List Str).zip us) := fun _ _ _ _ _ _ us hl => match us, hl with | [], _ => rfl
theorem bd_sSomeNames : ∀ (kV doc pm : Value) (an : Option Addr) (cdv ct : Value) (us : List Value), us.length = (["_law_purse_here", "_law_many"] : List Str).length → bindArgs (PySem.W.fnOf "_law_some_names" "_law_some_names" (defArgs sSomeNames) (defBody sSomeNames) (defScope sSomeNames) .none kV doc pm an cdv ct) ⟨us, []⟩ = pure ((["_law_purse_here", "_law_many"] : List Str).zip us) := fun _ _ _ _ _ _ us hl => match us, hl with | [_, _], _ => rfl
theorem bd_sCount : ∀ (kV doc pm : Value) (an : Option Addr) (cdv ct : Value) (us : List Value), us.length = (["_law_purse_here", "_law_low"] : List Str).length → bindArgs (PySem.W.fnOf "_law_count" "_law_count" (defArgs sCount) (defBody sCount) (defScope sCount) .none kV doc pm an cdv ct) ⟨us, []⟩ = pure ((["_law_purse_here", "_law_low"] : List Str).zip us) := fun _ _ _ _ _ _ us hl => match us, hl with | [_, _], _ => rfl
theorem bd_sLParts : ∀ (kV doc pm : Value) (an : Option Addr) (cdv ct : Value) (us : List Value), us.length = (["_law_purse_here", "_law_names_here"] : List Str).length → bindArgs (PySem.W.fnOf "_law_parts" "_law_parts" (defArgs sLParts) (defBody sLParts) (defScope sLParts) .none kV doc pm an cdv ct) ⟨us, []⟩ = pure ((["_law_purse_here", "_law_names_here"] : List Str).zip us) := fun _ _ _ _ _ _ us hl => match us, hl with | [_, _], _ => rfl
theorem bd_sLNet : ∀ (kV doc pm : Value) (an : Option Addr) (cdv ct : Value) (us : List Value), us.length = (["_law_purse_here"] : List Str).length → bindArgs (PySem.W.fnOf "_law_net" "_law_net" (defArgs sLNet) (defBody sLNet) (defScope sLNet) .none kV doc pm an cdv ct) ⟨us, []⟩ = pure ((["_law_purse_here"] : List Str).zip us) := fun _ _ _ _ _ _ us hl => match us, hl with | [_], _ => rfl
theorem bd_sLName : ∀ (kV doc pm : Value) (an : Option Addr) (cdv ct : Value) (us : List Value), us.length = (["_law_what"] : List Str).length → bindArgs (PySem.W.fnOf "_law_is_name" "_law_is_name" (defArgs sLName) (defBody sLName) (defScope sLName) .none kV doc pm an cdv ct) ⟨us, []⟩ = pure ((["_law_what"] : List Str).zip us) := fun _ _ _ _ _ _ us hl => match us, hl with | [_], _ => rfl
theorem bd_sLWhole : ∀ (kV doc pm : Value) (an : Option Addr) (cdv ct : Value) (us : List Value), us.length = (["_law_what", "_law_low"] : List Str).length → bindArgs (PySem.W.fnOf "_law_is_whole" "_law_is_whole" (defArgs sLWhole) (defBody sLWhole) (defScope sLWhole) .none kV doc pm an cdv ct) ⟨us, []⟩ = pure ((["_law_what", "_law_low"] : List Str).zip us) := fun _ _ _ _ _ _ us hl => match us, hl with | [_, _], _ => rfl
theorem bd_sLTuple : ∀ (kV doc pm : Value) (an : Option Addr) (cdv ct : Value) (us : List Value), us.length = (["_law_what", "_law_size"] : List Str).length → bindArgs (PySem.W.fnOf "_law_is_tuple" "_law_is_tuple" (defArgs sLTuple) (defBody sLTuple) (defScope sLTuple) .none kV doc pm an cdv ct) ⟨us, []⟩ = pure ((["_law_what", "_law_size"] : List Str).zip us) := fun _ _ _ _ _ _ us hl => match us, hl with | [_, _], _ => rfl
theorem bd_sLAre : ∀ (kV doc pm : Value) (an : Option Addr) (cdv ct : Value) (us : List Value), us.length = (["_law_what"] : List Str).length → bindArgs (PySem.W.fnOf "_law_are_parts" "_law_are_parts" (defArgs sLAre) (defBody sLAre) (defScope sLAre) .none kV doc pm an cdv ct) ⟨us, []⟩ = pure ((["_law_what"] : List Str).zip us) := fun _ _ _ _ _ _ us hl => match us, hl with | [_], _ => rfl
theorem bd_sLDue : ∀ (kV doc pm : Value) (an : Option Addr) (cdv ct : Value) (us : List Value), us.length = (["_law_what"] : List Str).length → bindArgs (PySem.W.fnOf "_law_due" "_law_due" (defArgs sLDue) (defBody sLDue) (defScope sLDue) .none kV doc pm an cdv ct) ⟨us, []⟩ = pure ((["_law_what"] : List Str).zip us) := fun _ _ _ _ _ _ us hl => match us, hl with | [_], _ => rfl
theorem bd_sLOdd : ∀ (kV doc pm : Value) (an : Option Addr) (cdv ct : Value) (us : List Value), us.length = (["_law_purse_here"] : List Str).length → bindArgs (PySem.W.fnOf "_law_odd_thing" "_law_odd_thing" (defArgs sLOdd) (defBody sLOdd) (defScope sLOdd) .none kV doc pm an cdv ct) ⟨us, []⟩ = pure ((["_law_purse_here"] : List Str).zip us) := fun _ _ _ _ _ _ us hl => match us, hl with | [_], _ => rfl
theorem bd_sLBent : ∀ (kV doc pm : Value) (an : Option Addr) (cdv ct : Value) (us : List Value), us.length = (["_law_purse_here", "_law_what"] : List Str).length → bindArgs (PySem.W.fnOf "_law_bent" "_law_bent" (defArgs sLBent) (defBody sLBent) (defScope sLBent) .none kV doc pm an cdv ct) ⟨us, []⟩ = pure ((["_law_purse_here", "_law_what"] : List Str).zip us) := fun _ _ _ _ _ _ us hl => match us, hl with | [_, _], _ => rfl
structure Defs (K : PySem.W.Frag) (mg : Str → Option Value) : Prop where
  d_sWhole : DefAt K mg "is_whole" sWhole ["thing"]
  d_sName : DefAt K mg "is_name" sName ["thing"]
  d_sTupOf : DefAt K mg "is_tuple_of" sTupOf ["thing", "many"]
  d_sCounted : DefAt K mg "is_counted" sCounted ["thing", "least"]
  d_sParts : DefAt K mg "is_parts" sParts ["thing"]
  d_sFiring : DefAt K mg "is_firing" sFiring ["thing"]
  d_sNumbers : DefAt K mg "numbers_of" sNumbers ["named"]
  d_sNet : DefAt K mg "net_wrong" sNet ["thing"]
  d_sPlaces : DefAt K mg "places_wrong" sPlaces ["places"]
  d_sFirings : DefAt K mg "firings_wrong" sFirings ["places", "firings"]
  d_sBad : DefAt K mg "bad_part" sBad ["numbers", "firing"]
  d_sMixed : DefAt K mg "_law_mixed" sMixed ["_law_cell", "_law_k"]
  d_sPurse : DefAt K mg "_law_purse" sPurse ["_law_cell", "_law_k"]
  d_sTake : DefAt K mg "_law_take" sTake ["_law_purse_here", "_law_far"]
  d_sAt : DefAt K mg "_law_at" sAt ["_law_script", "_law_k"]
  d_sPick : DefAt K mg "_law_pick" sPick ["_law_purse_here", "_law_some"]
  d_sNames : DefAt K mg "_law_names" sNames []
  d_sSomeNames : DefAt K mg "_law_some_names" sSomeNames ["_law_purse_here", "_law_many"]
  d_sCount : DefAt K mg "_law_count" sCount ["_law_purse_here", "_law_low"]
  d_sLParts : DefAt K mg "_law_parts" sLParts ["_law_purse_here", "_law_names_here"]
  d_sLNet : DefAt K mg "_law_net" sLNet ["_law_purse_here"]
  d_sLName : DefAt K mg "_law_is_name" sLName ["_law_what"]
  d_sLWhole : DefAt K mg "_law_is_whole" sLWhole ["_law_what", "_law_low"]
  d_sLTuple : DefAt K mg "_law_is_tuple" sLTuple ["_law_what", "_law_size"]
  d_sLAre : DefAt K mg "_law_are_parts" sLAre ["_law_what"]
  d_sLDue : DefAt K mg "_law_due" sLDue ["_law_what"]
  d_sLOdd : DefAt K mg "_law_odd_thing" sLOdd ["_law_purse_here"]
  d_sLBent : DefAt K mg "_law_bent" sLBent ["_law_purse_here", "_law_what"]
theorem cals_of (D : Defs K mg) (B : Bi mg) (C : Nc K mg) : Cals P w K mg base := by
  have cT := ok_tupOf (P := P) (w := w) (base := base) D.d_sTupOf B
  have cN := ok_name (P := P) (w := w) (base := base) D.d_sName B C
  have cW := ok_whole (P := P) (w := w) (base := base) D.d_sWhole B
  have cC := ok_counted D.d_sCounted C cT cN cW
  have cP := ok_parts D.d_sParts B cC
  have cF := ok_firing D.d_sFiring cT cN cP
  have cPl := ok_places D.d_sPlaces B cC
  have cNu := ok_numbers (P := P) (w := w) (base := base) D.d_sNumbers B
  have cBd := ok_bad (P := P) (w := w) (base := base) D.d_sBad
  have cFi := ok_firings D.d_sFirings B cNu cF cBd
  have nw := ok_net D.d_sNet B C cT cPl cFi
  have mi := ok_mixed (P := P) (w := w) (base := base) D.d_sMixed
  have ta := ok_take D.d_sTake mi
  have pk := ok_pick D.d_sPick B ta
  have na := ok_names (P := P) (w := w) (base := base) D.d_sNames
  have so := ok_some D.d_sSomeNames B ta na
  have co := ok_count D.d_sCount B pk
  have pa := ok_lparts D.d_sLParts B ta co
  have ne := ok_lnet D.d_sLNet B ta so co pk pa
  have lt := ok_ltuple (P := P) (w := w) (base := base) D.d_sLTuple B
  have ln := ok_lname (P := P) (w := w) (base := base) D.d_sLName B
  have lw := ok_lwhole (P := P) (w := w) (base := base) D.d_sLWhole B
  have la := ok_lare D.d_sLAre B lt ln lw
  have ld := ok_ldue D.d_sLDue B lt ln lw la
  have od := ok_odd D.d_sLOdd B ta
  exact ⟨ok_at D.d_sAt B, ok_purse D.d_sPurse mi, ne, nw, ta, ok_bent D.d_sLBent B ta od 10, ld⟩
end
end Nt

set_option Elab.async false
set_option linter.all false
set_option autoImplicit false
set_option maxRecDepth 100000
set_option maxHeartbeats 8000000
/-! The end. -/
namespace Nt
open PySem PySem.Spec PyProof.Rows L2 Lw
theorem top_walk {l : PySem.W.OpenLaw} {n : Nat} {q : Program} {loose : List Str} {XP : (Str → Option Value) → Heap → Prop} {YP : World → Heap → Prop} {d : DefRec} {K : Params → PySem.W.Frag}
    (hn : l.most = some n) (hn2 : n ≤ sizeLine) (hdf : d.params.defaults = []) (hY : ∀ (w : World) (h : Heap), YP w h → (K w.params).In h)
    (F : ∀ (w : World) (mg : Str → Option Value) (fa : Addr) (h : Heap), (K w.params).In h → h.Ns mainGlobals mg → mg d.name = some (.ref fa) →
      ∃ fd : FuncData, L2.Fun (K w.params) "law" "law" sLaw fa fd ∧ Bi mg ∧ ∀ base : Heap, (K w.params).In base → Cals l.prog w (K w.params) mg base) :
    PySem.W.WalkO q loose XP YP l.row.toRowW d [] (fun f vs => PySem.call f vs) := by
  refine Att.attach_call hn hdf fun w s0 s1 mg mb fa o pm cd doc a vs ns G Y ho hd hcd hmg hobj hints hlen hgens => ?_
  have kin := hY w _ Y
  obtain ⟨fd, Fn, B, C⟩ := F w mg fa _ kin G.T.g hmg
  obtain ⟨oc, od, kV, dc, pm', an, cdv, ct, osl, e, lk, hc⟩ := Fn.ex
  subst e
  have rel := vals_ints hints
  have len := hints.length
  have small : ns.length ≤ sizeLine := Nat.le_trans hlen hn2
  have go := fun (H : Hp) => top_at (mb := mb) (name := "law") (qual := "law") (params := defArgs sLaw) (body := defBody sLaw) (scope := defScope sLaw) (dV := .none) (kV := kV) (doc := dc) (pm := pm') (an := an) (ct := ct) lk hc scLaw (law_body (f := fa) (a := a) (cd := cdv) (ns := ns) B C) (fun s u => .of_eq rfl) kin G.T.g G.T.b G.T.builtins G.T.nolimit hgens hobj H
  cases hk : (K w.params).lookup a with
  | some ob =>
    have g := kin a ob hk
    rw [hobj] at g
    obtain rfl := Option.some.inj g
    exact go (fun _ => none) (.inr ⟨_, vs.toArray, _, hk, rfl, rfl, rfl, by rw [List.size_toArray, len]; exact small, by simpa using rel⟩) (fun b u z => nomatch z) fun b z => absurd rfl z
  | none =>
    obtain ⟨ob, hob⟩ : ∃ ob : Obj, ob = { cls := .type "list", data := .seq vs.toArray } := ⟨_, rfl⟩
    refine go (fun b => if b = a then some (.frz ob (.lst (ns.map V.int))) else none) (.inl (.inr ⟨ob, if_pos rfl⟩)) (fun b u z => ?_) fun b z => ?_
    · by_cases h : b = a
      · obtain rfl := Option.some.inj ((if_pos h).symm.trans z)
        subst h
        rw [hob]
        exact ⟨hobj, by rw [List.length_map]; exact small, vs, _, rel, hobj⟩
      · exact nomatch (if_neg h).symm.trans z
    · by_cases h : b = a
      · subst h
        exact ⟨rfl, hk, ob, _, if_pos rfl⟩
      · exact absurd (if_neg h) z
end Nt

set_option Elab.async false
set_option linter.all false
set_option maxRecDepth 100000
namespace Nt
open PySem PySem.Spec PyProof.Rows L2 Lw
section
variable {K : PySem.W.Frag} {mg : Str → Option Value} {h : Heap}
theorem nc_mk (X : K.In h) (G : h.Ns mainGlobals mg) {z1 z2 : Str} {t1 t2 t4 t5 t6 t7 s1 s2 s3 : Tok} {a n : Nat} {d3 : Option Addr} {sl3 : Array (Option Value)}
    (a1 : PySem.W.nsIn K mainGlobals "LETTERS" = some (some (.str z1 t1))) (e1 : z1 = letters)
    (a2 : PySem.W.nsIn K mainGlobals "WORD_SIGNS" = some (some (.str z2 t2))) (e2 : z2 = wordSigns)
    (a3 : PySem.W.nsIn K mainGlobals "KEPT_WORDS" = some (some (.ref a))) (l3 : K.lookup a = some ⟨.type "tuple", d3, .seq #[.str "place" s1, .str "fire" s2, .str "as" s3] n, sl3⟩)
    (a4 : PySem.W.nsIn K mainGlobals "LONGEST_NAME" = some (some (.int 8 t4))) (a5 : PySem.W.nsIn K mainGlobals "GREATEST" = some (some (.int 999999999 t5)))
    (a6 : PySem.W.nsIn K mainGlobals "MOST_PLACES" = some (some (.int 40 t6))) (a7 : PySem.W.nsIn K mainGlobals "MOST_FIRINGS" = some (some (.int 60 t7))) : Nc K mg := by
  subst e1 e2
  exact ⟨⟨_, PySem.W.mg_of X G a1, ⟨_, rfl⟩⟩, ⟨_, PySem.W.mg_of X G a2, ⟨_, rfl⟩⟩, ⟨a, ⟨_, PySem.W.mg_of X G a3, rfl⟩, fun H => .inr ⟨_, _, _, l3, rfl, rfl, (by show 3 ≤ sizeLine; decide), .cons ⟨_, rfl⟩ (.cons ⟨_, rfl⟩ (.cons ⟨_, rfl⟩ .nil))⟩⟩,
    ⟨_, PySem.W.mg_of X G a4, ⟨_, rfl⟩⟩, ⟨_, PySem.W.mg_of X G a5, ⟨_, rfl⟩⟩, ⟨_, PySem.W.mg_of X G a6, ⟨_, rfl⟩⟩, ⟨_, PySem.W.mg_of X G a7, ⟨_, rfl⟩⟩⟩
theorem bi_mk (X : K.In h) (G : h.Ns mainGlobals mg) (b1 : PySem.W.nsIn K mainGlobals "len" = some none) (b2 : PySem.W.nsIn K mainGlobals "isinstance" = some none) (b3 : PySem.W.nsIn K mainGlobals "str" = some none) (b4 : PySem.W.nsIn K mainGlobals "int" = some none)
    (b5 : PySem.W.nsIn K mainGlobals "bool" = some none) (b6 : PySem.W.nsIn K mainGlobals "tuple" = some none) (b7 : PySem.W.nsIn K mainGlobals "list" = some none) (b8 : PySem.W.nsIn K mainGlobals "all" = some none) (b9 : PySem.W.nsIn K mainGlobals "enumerate" = some none)
    (b10 : PySem.W.nsIn K mainGlobals "range" = some none) (b11 : PySem.W.nsIn K mainGlobals "max" = some none) (b12 : PySem.W.nsIn K mainGlobals "min" = some none) : Bi mg :=
  ⟨PySem.W.mg_none_of X G b1, PySem.W.mg_none_of X G b2, PySem.W.mg_none_of X G b3, PySem.W.mg_none_of X G b4, PySem.W.mg_none_of X G b5, PySem.W.mg_none_of X G b6, PySem.W.mg_none_of X G b7, PySem.W.mg_none_of X G b8, PySem.W.mg_none_of X G b9, PySem.W.mg_none_of X G b10, PySem.W.mg_none_of X G b11, PySem.W.mg_none_of X G b12⟩
theorem law_mk (X : K.In h) (G : h.Ns mainGlobals mg) {fa f : Addr} (hfa : mg "law" = some (.ref fa)) {oc kV dc pm cd ct : Value} {od an : Option Addr} {osl : Array (Option Value)}
    (a : PySem.W.nsIn K mainGlobals "law" = some (some (.ref f))) (l : K.lookup f = some ⟨oc, od, .func (PySem.W.fnOf "law" "law" (defArgs sLaw) (defBody sLaw) (defScope sLaw) .none kV dc pm an cd ct), osl⟩) (c : PySem.W.codeIn K cd "law" = true) (k : PySem.W.keepIn K (.ref f) = true) : ∃ fd, L2.Fun K "law" "law" sLaw fa fd := by
  have e := hfa.symm.trans (PySem.W.mg_of X G a)
  cases e
  exact ⟨_, fun_mk (st := sLaw) l c k⟩
theorem fin_mk {P : Program} {w : World} {fa : Addr} (X : K.In h) (B : Bi mg) (C : Nc K mg) (L : ∃ fd, L2.Fun K "law" "law" sLaw fa fd) (D : Defs K mg) : ∃ fd : FuncData, L2.Fun K "law" "law" sLaw fa fd ∧ Bi mg ∧ ∀ base : Heap, K.In base → Cals P w K mg base := by
  obtain ⟨fd, F⟩ := L
  exact ⟨fd, F, B, fun base _ => cals_of D B C⟩
end
end Nt
open PySem PySem.W PyProof.Rows
set_option maxHeartbeats 0 in
theorem PySem.Challenge.cw_tokenfold_k05_what_is_no_net_holds : PySem.Challenge.rw_tokenfold_k05_what_is_no_net.Holds := by
  w_on; o_law; k_head; (case hw => w_witness2)
  k_fill
  refine Nt.top_walk (l := PySem.Challenge.rw_tokenfold_k05_what_is_no_net) (n := 63) rfl (by decide) rfl (fun w h Y => PySem.W.kIn_of Y) ?F
  case F =>
    intro w mg fa h KX G hmg
    refine' Nt.fin_mk KX ?B ?C ?L ?D
    case B =>
      refine' Nt.bi_mk KX G ?b1 ?b2 ?b3 ?b4 ?b5 ?b6 ?b7 ?b8 ?b9 ?b10 ?b11 ?b12
      all_goals k_is
    case C =>
      refine' Nt.nc_mk KX G ?a1 ?e1 ?a2 ?e2 ?a3 ?l3 ?a4 ?a5 ?a6 ?a7
      (case a1 => k_is); (case e1 => exact rfl); (case a2 => k_is); (case e2 => exact rfl); (case a3 => k_is); (case l3 => k_is); (case a4 => k_is); (case a5 => k_is); (case a6 => k_is); (case a7 => k_is)
    case L =>
      refine' Nt.law_mk KX G hmg ?a ?l ?c ?k
      (case a => k_is); (case l => k_is); (case c => k_is); (case k => k_is)
    case D =>
      refine' Nt.Defs.mk ?d0 ?d1 ?d2 ?d3 ?d4 ?d5 ?d6 ?d7 ?d8 ?d9 ?d10 ?d11 ?d12 ?d13 ?d14 ?d15 ?d16 ?d17 ?d18 ?d19 ?d20 ?d21 ?d22 ?d23 ?d24 ?d25 ?d26 ?d27
      case d0 =>
        refine' Nt.defAt_mk KX G ?a ?l ?c ?k Nt.bd_sWhole
        (case a => k_is); (case l => k_is); (case c => k_is); (case k => k_is)
      case d1 =>
        refine' Nt.defAt_mk KX G ?a ?l ?c ?k Nt.bd_sName
        (case a => k_is); (case l => k_is); (case c => k_is); (case k => k_is)
      case d2 =>
        refine' Nt.defAt_mk KX G ?a ?l ?c ?k Nt.bd_sTupOf
        (case a => k_is); (case l => k_is); (case c => k_is); (case k => k_is)
      case d3 =>
        refine' Nt.defAt_mk KX G ?a ?l ?c ?k Nt.bd_sCounted
        (case a => k_is); (case l => k_is); (case c => k_is); (case k => k_is)
      case d4 =>
        refine' Nt.defAt_mk KX G ?a ?l ?c ?k Nt.bd_sParts
        (case a => k_is); (case l => k_is); (case c => k_is); (case k => k_is)
      case d5 =>
        refine' Nt.defAt_mk KX G ?a ?l ?c ?k Nt.bd_sFiring
        (case a => k_is); (case l => k_is); (case c => k_is); (case k => k_is)
      case d6 =>
        refine' Nt.defAt_mk KX G ?a ?l ?c ?k Nt.bd_sNumbers
        (case a => k_is); (case l => k_is); (case c => k_is); (case k => k_is)
      case d7 =>
        refine' Nt.defAt_mk KX G ?a ?l ?c ?k Nt.bd_sNet
        (case a => k_is); (case l => k_is); (case c => k_is); (case k => k_is)
      case d8 =>
        refine' Nt.defAt_mk KX G ?a ?l ?c ?k Nt.bd_sPlaces
        (case a => k_is); (case l => k_is); (case c => k_is); (case k => k_is)
      case d9 =>
        refine' Nt.defAt_mk KX G ?a ?l ?c ?k Nt.bd_sFirings
        (case a => k_is); (case l => k_is); (case c => k_is); (case k => k_is)
      case d10 =>
        refine' Nt.defAt_mk KX G ?a ?l ?c ?k Nt.bd_sBad
        (case a => k_is); (case l => k_is); (case c => k_is); (case k => k_is)
      case d11 =>
        refine' Nt.defAt_mk KX G ?a ?l ?c ?k Nt.bd_sMixed
        (case a => k_is); (case l => k_is); (case c => k_is); (case k => k_is)
      case d12 =>
        refine' Nt.defAt_mk KX G ?a ?l ?c ?k Nt.bd_sPurse
        (case a => k_is); (case l => k_is); (case c => k_is); (case k => k_is)
      case d13 =>
        refine' Nt.defAt_mk KX G ?a ?l ?c ?k Nt.bd_sTake
        (case a => k_is); (case l => k_is); (case c => k_is); (case k => k_is)
      case d14 =>
        refine' Nt.defAt_mk KX G ?a ?l ?c ?k Nt.bd_sAt
        (case a => k_is); (case l => k_is); (case c => k_is); (case k => k_is)
      case d15 =>
        refine' Nt.defAt_mk KX G ?a ?l ?c ?k Nt.bd_sPick
        (case a => k_is); (case l => k_is); (case c => k_is); (case k => k_is)
      case d16 =>
        refine' Nt.defAt_mk KX G ?a ?l ?c ?k Nt.bd_sNames
        (case a => k_is); (case l => k_is); (case c => k_is); (case k => k_is)
      case d17 =>
        refine' Nt.defAt_mk KX G ?a ?l ?c ?k Nt.bd_sSomeNames
        (case a => k_is); (case l => k_is); (case c => k_is); (case k => k_is)
      case d18 =>
        refine' Nt.defAt_mk KX G ?a ?l ?c ?k Nt.bd_sCount
        (case a => k_is); (case l => k_is); (case c => k_is); (case k => k_is)
      case d19 =>
        refine' Nt.defAt_mk KX G ?a ?l ?c ?k Nt.bd_sLParts
        (case a => k_is); (case l => k_is); (case c => k_is); (case k => k_is)
      case d20 =>
        refine' Nt.defAt_mk KX G ?a ?l ?c ?k Nt.bd_sLNet
        (case a => k_is); (case l => k_is); (case c => k_is); (case k => k_is)
      case d21 =>
        refine' Nt.defAt_mk KX G ?a ?l ?c ?k Nt.bd_sLName
        (case a => k_is); (case l => k_is); (case c => k_is); (case k => k_is)
      case d22 =>
        refine' Nt.defAt_mk KX G ?a ?l ?c ?k Nt.bd_sLWhole
        (case a => k_is); (case l => k_is); (case c => k_is); (case k => k_is)
      case d23 =>
        refine' Nt.defAt_mk KX G ?a ?l ?c ?k Nt.bd_sLTuple
        (case a => k_is); (case l => k_is); (case c => k_is); (case k => k_is)
      case d24 =>
        refine' Nt.defAt_mk KX G ?a ?l ?c ?k Nt.bd_sLAre
        (case a => k_is); (case l => k_is); (case c => k_is); (case k => k_is)
      case d25 =>
        refine' Nt.defAt_mk KX G ?a ?l ?c ?k Nt.bd_sLDue
        (case a => k_is); (case l => k_is); (case c => k_is); (case k => k_is)
      case d26 =>
        refine' Nt.defAt_mk KX G ?a ?l ?c ?k Nt.bd_sLOdd
        (case a => k_is); (case l => k_is); (case c => k_is); (case k => k_is)
      case d27 =>
        refine' Nt.defAt_mk KX G ?a ?l ?c ?k Nt.bd_sLBent
        (case a => k_is); (case l => k_is); (case c => k_is); (case k => k_is)
#print axioms PySem.Challenge.cw_tokenfold_k05_what_is_no_net_holds
