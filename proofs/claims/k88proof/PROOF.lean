import PyProof.Rows.All
import Wide.All
import OpenK.AllK
import Wide.FinOn
import HandS.ForMost
import HandS.Flow
import HandS.IsInst
import HandS.TupAny
import HandS.TupLe
import HandS.DictComp
import HandS.Wide
import HandS.Walk
import HandS.Conv
import HandS.Steps
import KE.GoesEnum
import HandS.Exc
import HandS.Iter
import HandS.Text
import HandS.FStr
import HandS.StrMore
import KE.GoesMore
import HandS.Style
import HandS.WideBits
import HandS.Deep
import HandS.TryOnly
import PySem.Challenge.RW_tokenfold_k88_what_cant_be_led
import HandS.Zip
import HandS.ExcField
import HandS.ExcIs
import KE.KExcIs
import HandS.WordsExc
import HandS.ExcInit
import KE.KDictSum
import PyProof.ReprRoads
import PyProof.ReprLen
import PyProof.EqAt
import HandS.Defaults
set_option Elab.async false
set_option linter.all false
set_option autoImplicit false
set_option maxRecDepth 100000
set_option maxHeartbeats 2000000
/-! Readings over data: what an expression, a test, a statement makes of slots that hold data, own lists, own dicts, a purse. -/
namespace Lw
open PySem PySem.Spec PyProof.Rows L2

/-! ### heaps that grow -/
def Ex (H H' : Hp) : Prop := ∀ a o, H a = some o → H' a = some o
theorem Ex.refl (H : Hp) : Ex H H := fun _ _ h => h
theorem Ex.trans {H H1 H2 : Hp} (a : Ex H H1) (b : Ex H1 H2) : Ex H H2 := fun x o h => b x o (a x o h)
theorem Ex.new {H : Hp} {p : Addr} {o : HO} (h : H p = none) : Ex H (upd H p o) := fun a u e => by
  rw [upd_ne (ne_of_none e h)]
  exact e
theorem Ex.back {H H' : Hp} {p : Addr} (e : Ex H H') (h : H' p = none) : H p = none := by
  cases h1 : H p with
  | none => rfl
  | some o =>
    rw [e p o h1] at h
    cases h
theorem Ex.upd2 {I H : Hp} {p : Addr} {o : HO} (e : Ex I H) : Ex (upd I p o) (upd H p o) := fun a u h => by
  by_cases z : a = p
  · subst z
    rw [upd_same] at h ⊢
    exact h
  · rw [upd_ne z] at h ⊢
    exact e a u h
theorem Ex.cell {I H : Hp} {p : Addr} {o : HO} (e : Ex I H) (h : I p = none) : Ex I (upd H p o) := fun a u q => by
  rw [upd_ne (ne_of_none q h)]
  exact e a u q
theorem Ex.rd {H H' : Hp} {a : Addr} {u : HO} (e : Ex H H') (h : Rd H a u) : Rd H' a u := by
  rcases h with h | ⟨o, h⟩
  · exact Or.inl (e a _ h)
  · exact Or.inr ⟨o, e a _ h⟩
/-! data: none, bools, ints, texts, lists that stand plainly, tuples, locked dicts -/
def keyD : Key → PyData
  | .inl i => .int i
  | .inr x => .str x
mutual
inductive Dq (K : PySem.W.Frag) (H : Hp) : V → PyData → Prop
  | non : Dq K H .non .none
  | bl (b : Bool) : Dq K H (.bl b) (.bool b)
  | int (i : Int) : Dq K H (.int i) (.int i)
  | str (x : Str) : Dq K H (.str x) (.str x)
  | lst {a : Addr} {xs : List V} {ds : List PyData} : H a = some (.lst xs) → DqAll K H xs ds → Dq K H (.ref a) (.list ds)
  | tup {a : Addr} {xs : List V} {ds : List PyData} : SqT K H a xs → DqAll K H xs ds → Dq K H (.ref a) (.tuple ds)
  | dct {a : Addr} {od : Obj} {ws : List (Key × V)} {ks : List (Key × PyData)} {kvs : List (PyData × PyData)} : H a = some (.frz od (.dK ws)) → kvs = ks.map (fun p => (keyD p.1, p.2)) → ws.map (·.1) = ks.map (·.1) → DqAll K H (ws.map (·.2)) (ks.map (·.2)) → Dq K H (.ref a) (.dict kvs)
inductive DqAll (K : PySem.W.Frag) (H : Hp) : List V → List PyData → Prop
  | nil : DqAll K H [] []
  | cons {v : V} {vs : List V} {d : PyData} {ds : List PyData} : Dq K H v d → DqAll K H vs ds → DqAll K H (v :: vs) (d :: ds)
end
section
variable {K : PySem.W.Frag} {H : Hp}
mutual
theorem Dq.dp : ∀ {d : PyData} {v : V}, d.canLay0 = true → Dq K H v d → Dp K H v d
  | .none, _, _, h => by cases h; exact .non
  | .bool b, _, _, h => by cases h; exact .bl _
  | .int i, _, _, h => by cases h; exact .int _
  | .str x, _, _, h => by cases h; exact .str _
  | .list ds, _, c, h => by
    cases h with
    | lst hs ha => exact .lst (.inl (.inl hs)) (DqAll.dp c ha)
  | .tuple ds, _, c, h => by
    cases h with
    | tup hs ha => exact .tup hs (DqAll.dp c ha)
  | .dict _, _, c, h => nomatch c
theorem DqAll.dp : ∀ {ds : List PyData} {vs : List V}, PyData.canLayAll0 ds = true → DqAll K H vs ds → DpAll K H vs ds
  | [], _, _, h => by cases h; exact .nil
  | d :: ds, _, c, h => by
    have c := Bool.and_eq_true_iff.mp c
    cases h with
    | cons h1 h2 => exact .cons (Dq.dp c.1 h1) (DqAll.dp c.2 h2)
end
end
section
variable {K : PySem.W.Frag} {H H' : Hp}
theorem Ex.l {a : Addr} {xs : List V} (e : Ex H H') (h : SqL K H a xs) : SqL K H' a xs := by
  rcases h with h | h
  · exact Or.inl (e.rd h)
  · exact Or.inr h
theorem Ex.t {a : Addr} {xs : List V} (e : Ex H H') (h : SqT K H a xs) : SqT K H' a xs := by
  rcases h with h | h
  · exact Or.inl (e.rd h)
  · exact Or.inr h
mutual
theorem dp_mono (e : Ex H H') : ∀ {v : V} {d : PyData}, Dq K H v d → Dq K H' v d
  | _, _, .non => .non
  | _, _, .bl b => .bl b
  | _, _, .int i => .int i
  | _, _, .str x => .str x
  | _, _, .lst hs ha => .lst (e _ _ hs) (dpA_mono e ha)
  | _, _, .tup hs ha => .tup (e.t hs) (dpA_mono e ha)
  | _, _, .dct hs hk hw ha => .dct (e _ _ hs) hk hw (dpA_mono e ha)
theorem dpA_mono (e : Ex H H') : ∀ {vs : List V} {ds : List PyData}, DqAll K H vs ds → DqAll K H' vs ds
  | _, _, .nil => .nil
  | _, _, .cons h1 h2 => .cons (dp_mono e h1) (dpA_mono e h2)
end
theorem dpA_len : ∀ {vs : List V} {ds : List PyData}, DqAll K H vs ds → vs.length = ds.length
  | _, [], h => by cases h; rfl
  | _, _ :: _, h => by cases h with | cons _ h2 => simp [dpA_len h2]
theorem dpA_get : ∀ {vs : List V} {ds : List PyData} {i : Nat} {d : PyData}, DqAll K H vs ds → ds[i]? = some d → ∃ v, vs[i]? = some v ∧ Dq K H v d
  | _, [], _, _, h, e => by simp at e
  | _, x :: ds, 0, d, h, e => by
    cases h with
    | cons h1 h2 =>
      have e' : x = d := by simpa using e
      subst e'
      exact ⟨_, rfl, h1⟩
  | _, x :: ds, i + 1, d, h, e => by
    cases h with
    | cons h1 h2 =>
      obtain ⟨v, e1, e2⟩ := dpA_get h2 (show ds[i]? = some d by simpa using e)
      exact ⟨v, by simpa using e1, e2⟩
theorem dpA_app : ∀ {vs ws : List V} {ds es : List PyData}, DqAll K H vs ds → DqAll K H ws es → DqAll K H (vs ++ ws) (ds ++ es)
  | _, _, [], _, h, k => by cases h; exact k
  | _, _, _ :: _, _, h, k => by
    cases h with
    | cons h1 h2 => exact .cons h1 (dpA_app h2 k)
theorem dpA_drop : ∀ {vs : List V} {ds : List PyData} (n : Nat), DqAll K H vs ds → DqAll K H (vs.drop n) (ds.drop n)
  | _, _, 0, h => h
  | _, [], n + 1, h => by cases h; exact .nil
  | _, _ :: _, n + 1, h => by
    cases h with
    | cons h1 h2 => exact dpA_drop n h2
theorem dpA_take : ∀ {vs : List V} {ds : List PyData} (n : Nat), DqAll K H vs ds → DqAll K H (vs.take n) (ds.take n)
  | _, _, 0, h => .nil
  | _, [], n + 1, h => by cases h; exact .nil
  | _, _ :: _, n + 1, h => by
    cases h with
    | cons h1 h2 => exact .cons h1 (dpA_take n h2)
theorem dpA_set : ∀ {vs : List V} {ds : List PyData} {v : V} {d : PyData} (n : Nat), DqAll K H vs ds → Dq K H v d → DqAll K H (vs.set n v) (ds.set n d)
  | _, [], _, _, _, h, _ => by cases h; exact .nil
  | _, _ :: _, _, _, 0, h, k => by
    cases h with
    | cons h1 h2 => exact .cons k h2
  | _, _ :: _, _, _, n + 1, h, k => by
    cases h with
    | cons h1 h2 => exact .cons h1 (dpA_set n h2 k)
theorem dpA_erase : ∀ {vs : List V} {ds : List PyData} (n : Nat), DqAll K H vs ds → DqAll K H (vs.eraseIdx n) (ds.eraseIdx n)
  | _, [], _, h => by cases h; exact .nil
  | _, _ :: _, 0, h => by
    cases h with
    | cons h1 h2 => exact h2
  | _, _ :: _, n + 1, h => by
    cases h with
    | cons h1 h2 => exact .cons h1 (dpA_erase n h2)
theorem dp_int {v : V} {i : Int} (h : Dq K H v (.int i)) : v = .int i := by cases h; rfl
theorem dp_bl {v : V} {b : Bool} (h : Dq K H v (.bool b)) : v = .bl b := by cases h; rfl
theorem dp_str {v : V} {x : Str} (h : Dq K H v (.str x)) : v = .str x := by cases h; rfl
theorem dp_non {v : V} (h : Dq K H v .none) : v = .non := by cases h; rfl
theorem dp_tup {v : V} {ds : List PyData} (h : Dq K H v (.tuple ds)) : ∃ a xs, v = .ref a ∧ SqT K H a xs ∧ DqAll K H xs ds := by
  cases h with
  | tup h1 h2 => exact ⟨_, _, rfl, h1, h2⟩
theorem dp_lst {v : V} {ds : List PyData} (h : Dq K H v (.list ds)) : ∃ a xs, v = .ref a ∧ H a = some (.lst xs) ∧ DqAll K H xs ds := by
  cases h with
  | lst h1 h2 => exact ⟨_, _, rfl, h1, h2⟩
theorem dpA_cut {vs : List V} {ds : List PyData} (lo hi : Option Int) (h : DqAll K H vs ds) : DqAll K H (cutV vs lo hi) ((ds.drop (HT.sIx ds.length 0 lo)).take (HT.sIx ds.length ds.length hi - HT.sIx ds.length 0 lo)) := by
  unfold cutV
  rw [dpA_len h]
  exact dpA_take _ (dpA_drop _ h)
end

/-! ### what slots hold -/
inductive Val where
  | dat (d : PyData)
  | lst (p : Addr) (ds : List PyData)
  | dic (p : Addr) (kvs : List (Key × V))
  | prs (p : Addr) (n : Nat)
  | ins (p C dx : Addr) (fs : List (Str × PyData))
  | dct (p : Addr) (kvs : List (Key × PyData))
  | seq (ns : List Int)
  | exc (z : Str) (fs : List (Str × PyData))
abbrev Env := List (Option Val)
def isCell : Val → Bool
  | .dat _ | .seq _ | .exc _ _ => false
  | _ => true
def PurseOk (xs : List V) (n : Nat) : Prop := ∃ a b c : Int, xs = [.int a, .int b, .int c] ∧ 0 ≤ a ∧ a < 2 ^ 2100 ∧ 0 ≤ b ∧ b + n ≤ 2 ^ 60 ∧ 0 ≤ c ∧ c + n ≤ 2 ^ 80
theorem PurseOk.less {xs : List V} {n m : Nat} (h : PurseOk xs n) (k : m ≤ n) : PurseOk xs m := by
  obtain ⟨a, b, c, e, h1, h2, h3, h4, h5, h6⟩ := h
  exact ⟨a, b, c, e, h1, h2, h3, by omega, h5, by omega⟩
/-- what stands under the name z in the module -/
def clsOf (K : PySem.W.Frag) (z : Str) : Value := match PySem.W.nsIn K mainGlobals z with
  | some (some v) => v
  | _ => .none
/-- an error of the class at C with these fields, kept at a -/
def XcAt (H : Hp) (a C : Addr) (fs : List (Str × V)) : Prop := ∃ (oe : Obj) (dd : Addr), H a = some (.frz oe (.own a)) ∧ L2.Zc (.ref C) (some dd) oe ∧ (∃ vs, oe.data = .fields vs) ∧ H dd = some (.xd fs)
theorem XcAt.mono {I I' : Hp} {a C : Addr} {fs : List (Str × V)} (e : Ex I I') (h : XcAt I a C fs) : XcAt I' a C fs := by
  obtain ⟨oe, dd, h1, hz, hf, h2⟩ := h
  exact ⟨oe, dd, e _ _ h1, hz, hf, e _ _ h2⟩
def VOk (K : PySem.W.Frag) (F I H : Hp) (v : V) : Val → Prop
  | .dat d => Dq K I v d
  | .lst p ds => v = .ref p ∧ F p = none ∧ I p = none ∧ ∃ xs, H p = some (.lst xs) ∧ DqAll K I xs ds
  | .dic p kvs => v = .ref p ∧ F p = none ∧ I p = none ∧ H p = some (.dK kvs)
  | .prs p n => v = .ref p ∧ F p = none ∧ I p = none ∧ ∃ xs, H p = some (.lst xs) ∧ PurseOk xs n
  | .ins p C dx fs => v = .ref p ∧ F p = none ∧ I p = none ∧ ∃ vs : List (Str × V), H p = some (.ins C dx vs) ∧ vs.map (·.1) = fs.map (·.1) ∧ I dx = some (.own p) ∧ DqAll K I (vs.map (·.2)) (fs.map (·.2))
  | .dct p kvs => v = .ref p ∧ F p = none ∧ I p = none ∧ ∃ ws : List (Key × V), H p = some (.dK ws) ∧ ws.map (·.1) = kvs.map (·.1) ∧ DqAll K I (ws.map (·.2)) (kvs.map (·.2))
  | .seq ns => ∃ a, v = .ref a ∧ SqL K I a (ns.map V.int)
  | .exc z fs => ∃ (a C : Addr) (vs : List (Str × V)), v = .ref a ∧ clsOf K z = .ref C ∧ XcAt I a C vs ∧ vs.map (·.1) = fs.map (·.1) ∧ DqAll K I (vs.map (·.2)) (fs.map (·.2))
/-- F: what stood at the entry and stays; I0, I: what data lean on, at the entry and now -/
structure EnvI (K : PySem.W.Frag) (F I0 I : Hp) (σ : L2.St) (H : Hp) (env : Env) : Prop where
  fh : Ex F H
  oi : Ex I0 I
  ih : Ex I H
  fr : ∀ a, F a ≠ none → I0 a = none → I a = none
  len : env.length = σ.length
  at_ : ∀ (i : Nat) (x : Val), env[i]? = some (some x) → ∃ v : V, σ[i]? = some (some v) ∧ VOk K F I H v x
  ne : ∀ (i j : Nat) (x y : Val), i ≠ j → env[i]? = some (some x) → env[j]? = some (some y) → isCell x = true → isCell y = true → σ[i]? ≠ σ[j]?
section
variable {K : PySem.W.Frag} {F I0 I I' H H' : Hp} {σ : L2.St} {env : Env}
/-- the heap has grown -/
theorem VOk.grow {v : V} {x : Val} (e : Ex I I') (hc : ∀ a, v = .ref a → isCell x = true → I a = none → I' a = none ∧ H' a = H a) (h : VOk K F I H v x) : VOk K F I' H' v x := by
  cases x with
  | dat d => exact dp_mono e h
  | lst p ds =>
    obtain ⟨rfl, hf, hi, xs, hh, hd⟩ := h
    obtain ⟨h1, h2⟩ := hc p rfl rfl hi
    exact ⟨rfl, hf, h1, xs, h2.trans hh, dpA_mono e hd⟩
  | dic p kvs =>
    obtain ⟨rfl, hf, hi, hh⟩ := h
    obtain ⟨h1, h2⟩ := hc p rfl rfl hi
    exact ⟨rfl, hf, h1, h2.trans hh⟩
  | prs p n =>
    obtain ⟨rfl, hf, hi, xs, hh, hp⟩ := h
    obtain ⟨h1, h2⟩ := hc p rfl rfl hi
    exact ⟨rfl, hf, h1, xs, h2.trans hh, hp⟩
  | ins p C dx fs =>
    obtain ⟨rfl, hf, hi, vs, hh, hn, hx, hd⟩ := h
    obtain ⟨h1, h2⟩ := hc p rfl rfl hi
    exact ⟨rfl, hf, h1, vs, h2.trans hh, hn, e _ _ hx, dpA_mono e hd⟩
  | dct p kvs =>
    obtain ⟨rfl, hf, hi, vs, hh, hn, hd⟩ := h
    obtain ⟨h1, h2⟩ := hc p rfl rfl hi
    exact ⟨rfl, hf, h1, vs, h2.trans hh, hn, dpA_mono e hd⟩
  | seq ns =>
    obtain ⟨a, rfl, hs⟩ := h
    exact ⟨a, rfl, e.l hs⟩
  | exc C fs =>
    obtain ⟨a, D, vs, rfl, hc, hx, hn, hd⟩ := h
    exact ⟨a, D, vs, rfl, hc, hx.mono e, hn, dpA_mono e hd⟩
theorem VOk.there {v : V} {x : Val} (h : VOk K F I H v x) (hx : isCell x = true) : ∃ a o, v = .ref a ∧ F a = none ∧ I a = none ∧ H a = some o := by
  cases x with
  | dat d => cases hx
  | lst p ds =>
    obtain ⟨rfl, hf, hi, xs, hh, _⟩ := h
    exact ⟨p, _, rfl, hf, hi, hh⟩
  | dic p kvs =>
    obtain ⟨rfl, hf, hi, hh⟩ := h
    exact ⟨p, _, rfl, hf, hi, hh⟩
  | prs p n =>
    obtain ⟨rfl, hf, hi, xs, hh, _⟩ := h
    exact ⟨p, _, rfl, hf, hi, hh⟩
  | ins p C dx fs =>
    obtain ⟨rfl, hf, hi, vs, hh, _⟩ := h
    exact ⟨p, _, rfl, hf, hi, hh⟩
  | dct p kvs =>
    obtain ⟨rfl, hf, hi, vs, hh, _⟩ := h
    exact ⟨p, _, rfl, hf, hi, hh⟩
  | seq ns => cases hx
  | exc C fs => cases hx
/-- a new thing that nobody changes -/
theorem EnvI.newD (E : EnvI K F I0 I σ H env) {p : Addr} {o : HO} (hp : H p = none) : EnvI K F I0 (upd I p o) σ (upd H p o) env where
  fh := E.fh.trans (Ex.new hp)
  oi := E.oi.trans (Ex.new (E.ih.back hp))
  ih := E.ih.upd2
  fr := fun a h1 h2 => by
    have z : a ≠ p := fun z => h1 (z ▸ E.fh.back hp)
    rw [upd_ne z]
    exact E.fr a h1 h2
  len := E.len
  at_ := fun i x h => by
    obtain ⟨v, h1, h2⟩ := E.at_ i x h
    refine ⟨v, h1, h2.grow (Ex.new (E.ih.back hp)) fun a ea hx hi => ?_⟩
    obtain ⟨b, o', eb, _, _, hb⟩ := h2.there hx
    rw [ea] at eb
    cases eb
    have z : a ≠ p := ne_of_none hb hp
    rw [upd_ne z, upd_ne z]
    exact ⟨hi, rfl⟩
  ne := E.ne
/-- a new thing that no data lean on -/
theorem EnvI.newC (E : EnvI K F I0 I σ H env) {p : Addr} {o : HO} (hp : H p = none) : EnvI K F I0 I σ (upd H p o) env where
  fh := E.fh.trans (Ex.new hp)
  oi := E.oi
  ih := E.ih.trans (Ex.new hp)
  fr := E.fr
  len := E.len
  at_ := fun i x h => by
    obtain ⟨v, h1, h2⟩ := E.at_ i x h
    refine ⟨v, h1, h2.grow (Ex.refl _) fun a ea hx hi => ?_⟩
    obtain ⟨b, o', eb, _, _, hb⟩ := h2.there hx
    rw [ea] at eb
    cases eb
    have z : a ≠ p := ne_of_none hb hp
    rw [upd_ne z]
    exact ⟨hi, rfl⟩
  ne := E.ne
/-- a slot gets data -/
theorem EnvI.setD (E : EnvI K F I0 I σ H env) {v : V} {d : PyData} (k : Nat) (hd : Dq K I v d) : EnvI K F I0 I (σ.set k (some v)) H (env.set k (some (.dat d))) where
  fh := E.fh
  oi := E.oi
  ih := E.ih
  fr := E.fr
  len := by rw [List.length_set, List.length_set, E.len]
  at_ := fun i x h => by
    by_cases z : k = i
    · subst z
      have hk : k < env.length := by
        have := (List.getElem?_eq_some_iff.mp h).1
        simpa using this
      rw [List.getElem?_set_self hk] at h
      cases h
      exact ⟨v, List.getElem?_set_self (by rw [← E.len]; exact hk), hd⟩
    · rw [List.getElem?_set_ne z] at h
      obtain ⟨w, h1, h2⟩ := E.at_ i x h
      exact ⟨w, by rw [List.getElem?_set_ne z]; exact h1, h2⟩
  ne := fun i j x y hij hi hj cx cy => by
    have off : ∀ {m z}, (env.set k (some (.dat d)))[m]? = some (some z) → isCell z = true → k ≠ m := fun {m z} h c e => by
      subst e
      have hk : k < env.length := by
        have := (List.getElem?_eq_some_iff.mp h).1
        simpa using this
      rw [List.getElem?_set_self hk] at h
      cases h
      cases c
    have zi := off hi cx
    have zj := off hj cy
    rw [List.getElem?_set_ne zi] at hi
    rw [List.getElem?_set_ne zj] at hj
    rw [List.getElem?_set_ne zi, List.getElem?_set_ne zj]
    exact E.ne i j x y hij hi hj cx cy
/-- a slot gets a new cell -/
theorem EnvI.setC (E : EnvI K F I0 I σ H env) {p : Addr} {o : HO} {x : Val} (k : Nat) (hp : H p = none) (hx : VOk K F I (upd H p o) (.ref p) x) : EnvI K F I0 I (σ.set k (some (.ref p))) (upd H p o) (env.set k (some x)) := by
  have E1 := E.newC (o := o) hp
  refine ⟨E1.fh, E1.oi, E1.ih, E1.fr, by rw [List.length_set, List.length_set, E.len], fun i y h => ?_, fun i j y z hij hi hj cy cz => ?_⟩
  · by_cases e : k = i
    · subst e
      have hk : k < env.length := by
        have := (List.getElem?_eq_some_iff.mp h).1
        simpa using this
      rw [List.getElem?_set_self hk] at h
      cases h
      exact ⟨_, List.getElem?_set_self (by rw [← E.len]; exact hk), hx⟩
    · rw [List.getElem?_set_ne e] at h
      obtain ⟨w, h1, h2⟩ := E1.at_ i y h
      exact ⟨w, by rw [List.getElem?_set_ne e]; exact h1, h2⟩
  · have other : ∀ {m u}, k ≠ m → (env.set k (some x))[m]? = some (some u) → isCell u = true → (σ.set k (some (.ref p)))[m]? ≠ some (some (.ref p)) := fun {m u} km h c => by
      rw [List.getElem?_set_ne km] at h ⊢
      obtain ⟨w, h1, h2⟩ := E.at_ m u h
      obtain ⟨a, o', ea, _, _, ha⟩ := h2.there c
      rw [h1, ea]
      intro q
      cases q
      rw [hp] at ha
      cases ha
    have self : ∀ {m u}, k = m → (env.set k (some x))[m]? = some (some u) → (σ.set k (some (.ref p)))[m]? = some (some (.ref p)) := fun {m u} km h => by
      subst km
      have hk : k < env.length := by
        have := (List.getElem?_eq_some_iff.mp h).1
        simpa using this
      exact List.getElem?_set_self (by rw [← E.len]; exact hk)
    by_cases ei : k = i
    · rw [self ei hi]
      have ej : k ≠ j := fun e => hij (ei.symm.trans e)
      exact fun q => other ej hj cz q.symm
    · by_cases ej : k = j
      · rw [self ej hj]
        exact other ei hi cy
      · rw [List.getElem?_set_ne ei] at hi ⊢
        rw [List.getElem?_set_ne ej] at hj ⊢
        exact E.ne i j y z hij hi hj cy cz
/-- a slot is forgotten -/
theorem EnvI.forget (E : EnvI K F I0 I σ H env) {env' : Env} (hl : env'.length = env.length) (h : ∀ (i : Nat) (x : Val), env'[i]? = some (some x) → env[i]? = some (some x)) : EnvI K F I0 I σ H env' :=
  ⟨E.fh, E.oi, E.ih, E.fr, hl.trans E.len, fun i x e => E.at_ i x (h i x e), fun i j x y hij hi hj cx cy => E.ne i j x y hij (h i x hi) (h j y hj) cx cy⟩
/-- a cell changes its content -/
theorem EnvI.putC (E : EnvI K F I0 I σ H env) {k : Nat} {x y : Val} {p : Addr} {o : HO} (hk : env[k]? = some (some x)) (cx : isCell x = true) (hs : σ[k]? = some (some (.ref p))) (hI : I p = none) (hF : F p = none) (hy : VOk K F I (upd H p o) (.ref p) y) : EnvI K F I0 I σ (upd H p o) (env.set k (some y)) := by
  have kl : k < env.length := (List.getElem?_eq_some_iff.mp hk).1
  refine ⟨E.fh.cell hF, E.oi, E.ih.cell hI, E.fr, by rw [List.length_set, E.len], fun i z h => ?_, fun i j u w hij hi hj cu cw => ?_⟩
  · by_cases e : k = i
    · subst e
      rw [List.getElem?_set_self kl] at h
      cases h
      exact ⟨_, hs, hy⟩
    · rw [List.getElem?_set_ne e] at h
      obtain ⟨v, h1, h2⟩ := E.at_ i z h
      refine ⟨v, h1, h2.grow (Ex.refl _) fun a ea hz hi => ⟨hi, ?_⟩⟩
      have q := E.ne k i x z e hk h cx hz
      rw [hs, h1, ea] at q
      exact upd_ne fun w => q (by rw [w])
  · have cell : ∀ {m u}, (env.set k (some y))[m]? = some (some u) → isCell u = true → ∃ t, env[m]? = some (some t) ∧ isCell t = true := fun {m u} h c => by
      by_cases e : k = m
      · subst e
        exact ⟨x, hk, cx⟩
      · rw [List.getElem?_set_ne e] at h
        exact ⟨u, h, c⟩
    obtain ⟨t, ht, ct⟩ := cell hi cu
    obtain ⟨t', ht', ct'⟩ := cell hj cw
    exact E.ne i j t t' hij ht ht' ct ct'
/-- an own list becomes data -/
theorem EnvI.freeze (E : EnvI K F I0 I σ H env) {k : Nat} {a : Addr} {ds : List PyData} (hk : env[k]? = some (some (.lst a ds))) :
    ∃ I', σ[k]? = some (some (.ref a)) ∧ Ex I I' ∧ EnvI K F I0 I' σ H (env.set k (some (.dat (.list ds)))) := by
  have kl : k < env.length := (List.getElem?_eq_some_iff.mp hk).1
  obtain ⟨v, hs, rfl, hF, hI, xs, hH, hd⟩ := E.at_ k _ hk
  have e1 : Ex I (upd I a (.lst xs)) := Ex.new hI
  refine ⟨upd I a (.lst xs), hs, e1, E.fh, E.oi.trans e1, fun b o h => ?_, fun b h1 h2 => ?_, by rw [List.length_set, E.len], fun i x h => ?_, fun i j u w hij hi hj cu cw => ?_⟩
  · by_cases z : b = a
    · subst z
      rw [upd_same] at h
      exact hH.trans h
    · rw [upd_ne z] at h
      exact E.ih b o h
  · have z : b ≠ a := fun z => h1 (z ▸ hF)
    rw [upd_ne z]
    exact E.fr b h1 h2
  · by_cases e : k = i
    · subst e
      rw [List.getElem?_set_self kl] at h
      cases h
      exact ⟨_, hs, Dq.lst upd_same (dpA_mono e1 hd)⟩
    · rw [List.getElem?_set_ne e] at h
      obtain ⟨v, h1, h2⟩ := E.at_ i x h
      refine ⟨v, h1, h2.grow e1 fun b eb hx hi => ⟨?_, rfl⟩⟩
      have q := E.ne k i _ x e hk h rfl hx
      rw [hs, h1, eb] at q
      rw [upd_ne fun w => q (by rw [w])]
      exact hi
  · have off : ∀ {m z}, (env.set k (some (.dat (.list ds))))[m]? = some (some z) → isCell z = true → k ≠ m := fun {m z} h c e => by
      subst e
      rw [List.getElem?_set_self kl] at h
      cases h
      cases c
    have zi := off hi cu
    have zj := off hj cw
    rw [List.getElem?_set_ne zi] at hi
    rw [List.getElem?_set_ne zj] at hj
    exact E.ne i j u w hij hi hj cu cw
/-- a call that keeps all -/
theorem EnvI.called (E : EnvI K F I0 I σ H env) (e1 : Ex I I') (e2 : Ex I' H') (e3 : Ex H H') (fr : ∀ a, H a ≠ none → I a = none → I' a = none) : EnvI K F I0 I' σ H' env :=
  ⟨E.fh.trans e3, E.oi.trans e1, e2, fun a h1 h2 => fr a (fun z => h1 (E.fh.back z)) (E.fr a h1 h2), E.len, fun i x h => by
    obtain ⟨v, h1, h2⟩ := E.at_ i x h
    refine ⟨v, h1, h2.grow e1 fun a ea hx hi => ?_⟩
    obtain ⟨b, o, eb, _, _, hb⟩ := h2.there hx
    rw [ea] at eb
    cases eb
    exact ⟨fr a (by rw [hb]; exact fun z => nomatch z) hi, (e3 a o hb).trans hb.symm⟩, E.ne⟩
/-- a call that changes the cell at slot k alone -/
theorem EnvI.calledC (E : EnvI K F I0 I σ H env) {k : Nat} {x y : Val} {p : Addr} (hk : env[k]? = some (some x)) (cx : isCell x = true) (hs : σ[k]? = some (some (.ref p))) (hF : F p = none) (e1 : Ex I I') (e2 : Ex I' H')
    (e3 : ∀ a o, a ≠ p → H a = some o → H' a = some o) (fr : ∀ a, H a ≠ none → I a = none → I' a = none) (hy : VOk K F I' H' (.ref p) y) : EnvI K F I0 I' σ H' (env.set k (some y)) := by
  have kl : k < env.length := (List.getElem?_eq_some_iff.mp hk).1
  have ne_F : ∀ a, F a ≠ none → a ≠ p := fun a h z => h (z ▸ hF)
  refine ⟨fun a o h => e3 a o (ne_F a (by rw [h]; exact fun z => nomatch z)) (E.fh a o h), E.oi.trans e1, e2, fun a h1 h2 => fr a (fun z => h1 (E.fh.back z)) (E.fr a h1 h2), by rw [List.length_set, E.len], fun i z h => ?_, fun i j u w hij hi hj cu cw => ?_⟩
  · by_cases e : k = i
    · subst e
      rw [List.getElem?_set_self kl] at h
      cases h
      exact ⟨_, hs, hy⟩
    · rw [List.getElem?_set_ne e] at h
      obtain ⟨v, h1, h2⟩ := E.at_ i z h
      refine ⟨v, h1, h2.grow e1 fun a ea hz hi => ?_⟩
      obtain ⟨b, o, eb, _, _, hb⟩ := h2.there hz
      rw [ea] at eb
      cases eb
      have q := E.ne k i x z e hk h cx hz
      rw [hs, h1, ea] at q
      have ap : a ≠ p := fun w => q (by rw [w])
      exact ⟨fr a (by rw [hb]; exact fun z => nomatch z) hi, (e3 a o ap hb).trans hb.symm⟩
  · have cell : ∀ {m u}, (env.set k (some y))[m]? = some (some u) → isCell u = true → ∃ t, env[m]? = some (some t) ∧ isCell t = true := fun {m u} h c => by
      by_cases e : k = m
      · subst e
        exact ⟨x, hk, cx⟩
      · rw [List.getElem?_set_ne e] at h
        exact ⟨u, h, c⟩
    obtain ⟨t, ht, ct⟩ := cell hi cu
    obtain ⟨t', ht', ct'⟩ := cell hj cw
    exact E.ne i j t t' hij ht ht' ct ct'
/-- D, made on the way, is nobody's -/
theorem EnvI.guard (E : EnvI K F I0 I σ H env) {D : Addr} {o : HO} (hD : H D = none) : EnvI K (upd F D o) I0 I σ (upd H D o) env :=
  ⟨E.fh.upd2, E.oi, E.ih.trans (Ex.new hD), fun a h1 h2 => by
    by_cases z : a = D
    · subst z
      exact E.ih.back hD
    · rw [upd_ne z] at h1
      exact E.fr a h1 h2, E.len, fun i x h => by
    obtain ⟨v, h1, h2⟩ := E.at_ i x h
    refine ⟨v, h1, ?_⟩
    cases x with
    | dat d => exact h2
    | lst a ds =>
      obtain ⟨rfl, hf, hi, xs, hh, hd⟩ := h2
      have z : a ≠ D := ne_of_none hh hD
      exact ⟨rfl, by rw [upd_ne z]; exact hf, hi, xs, by rw [upd_ne z]; exact hh, hd⟩
    | dic a ds =>
      obtain ⟨rfl, hf, hi, hh⟩ := h2
      have z : a ≠ D := ne_of_none hh hD
      exact ⟨rfl, by rw [upd_ne z]; exact hf, hi, by rw [upd_ne z]; exact hh⟩
    | prs p n =>
      obtain ⟨rfl, hf, hi, xs, hh, hp⟩ := h2
      have z : p ≠ D := ne_of_none hh hD
      exact ⟨rfl, by rw [upd_ne z]; exact hf, hi, xs, by rw [upd_ne z]; exact hh, hp⟩
    | ins p C dx fs =>
      obtain ⟨rfl, hf, hi, vs, hh, hn⟩ := h2
      have z : p ≠ D := ne_of_none hh hD
      exact ⟨rfl, by rw [upd_ne z]; exact hf, hi, vs, by rw [upd_ne z]; exact hh, hn⟩
    | dct p kvs =>
      obtain ⟨rfl, hf, hi, vs, hh, hn⟩ := h2
      have z : p ≠ D := ne_of_none hh hD
      exact ⟨rfl, by rw [upd_ne z]; exact hf, hi, vs, by rw [upd_ne z]; exact hh, hn⟩
    | seq ns => exact h2
    | exc C fs => exact h2, E.ne⟩
/-- what stands at D may change -/
theorem EnvI.guardPut {D : Addr} {o o' : HO} (E : EnvI K (upd F D o) I0 I σ H env) (h0 : I0 D = none) : EnvI K (upd F D o') I0 I σ (upd H D o') env := by
  have hI : I D = none := E.fr D (by rw [upd_same]; exact fun z => nomatch z) h0
  refine ⟨fun a u h => ?_, E.oi, E.ih.cell hI, fun a h1 h2 => ?_, E.len, fun i x h => ?_, E.ne⟩
  · by_cases z : a = D
    · subst z
      rw [upd_same] at h ⊢
      exact h
    · rw [upd_ne z] at h ⊢
      exact E.fh a u (by rw [upd_ne z]; exact h)
  · by_cases z : a = D
    · subst z
      exact hI
    · rw [upd_ne z] at h1
      exact E.fr a (by rw [upd_ne z]; exact h1) h2
  · obtain ⟨v, h1, h2⟩ := E.at_ i x h
    refine ⟨v, h1, ?_⟩
    have off : ∀ a, (upd F D o) a = none → a ≠ D := fun a q z => by
      rw [z, upd_same] at q
      cases q
    cases x with
    | dat d => exact h2
    | lst a ds =>
      obtain ⟨rfl, hf, hi, xs, hh, hd⟩ := h2
      have z := off a hf
      exact ⟨rfl, by rw [upd_ne z] at hf ⊢; exact hf, hi, xs, by rw [upd_ne z]; exact hh, hd⟩
    | dic a ds =>
      obtain ⟨rfl, hf, hi, hh⟩ := h2
      have z := off a hf
      exact ⟨rfl, by rw [upd_ne z] at hf ⊢; exact hf, hi, by rw [upd_ne z]; exact hh⟩
    | prs p n =>
      obtain ⟨rfl, hf, hi, xs, hh, hp⟩ := h2
      have z := off p hf
      exact ⟨rfl, by rw [upd_ne z] at hf ⊢; exact hf, hi, xs, by rw [upd_ne z]; exact hh, hp⟩
    | ins p C dx fs =>
      obtain ⟨rfl, hf, hi, vs, hh, hn⟩ := h2
      have z := off p hf
      exact ⟨rfl, by rw [upd_ne z] at hf ⊢; exact hf, hi, vs, by rw [upd_ne z]; exact hh, hn⟩
    | dct p kvs =>
      obtain ⟨rfl, hf, hi, vs, hh, hn⟩ := h2
      have z := off p hf
      exact ⟨rfl, by rw [upd_ne z] at hf ⊢; exact hf, hi, vs, by rw [upd_ne z]; exact hh, hn⟩
    | seq ns => exact h2
    | exc C fs => exact h2
/-- what was guarded becomes data -/
theorem EnvI.unguard {D : Addr} {o : HO} (E : EnvI K (upd F D o) I0 I σ H env) (hF : F D = none) (h0 : I0 D = none) : I D = none ∧ H D = some o ∧ EnvI K F I0 (upd I D o) σ H env := by
  have hI : I D = none := E.fr D (by rw [upd_same]; exact fun z => nomatch z) h0
  have hH : H D = some o := E.fh D o upd_same
  refine ⟨hI, hH, fun a u h => E.fh a u (by rw [upd_ne (ne_of_none h hF)]; exact h), E.oi.trans (Ex.new hI), fun a u h => ?_, fun a h1 h2 => ?_, E.len, fun i x h => ?_, E.ne⟩
  · by_cases z : a = D
    · subst z
      rw [upd_same] at h
      exact hH.trans h
    · rw [upd_ne z] at h
      exact E.ih a u h
  · have z : a ≠ D := fun z => h1 (z ▸ hF)
    rw [upd_ne z]
    exact E.fr a (by rw [upd_ne z]; exact h1) h2
  · obtain ⟨v, h1, h2⟩ := E.at_ i x h
    refine ⟨v, h1, ?_⟩
    have off : ∀ a, (upd F D o) a = none → a ≠ D := fun a q z => by
      rw [z, upd_same] at q
      cases q
    have e1 : Ex I (upd I D o) := Ex.new hI
    cases x with
    | dat d => exact dp_mono e1 h2
    | lst a ds =>
      obtain ⟨rfl, hf, hi, xs, hh, hd⟩ := h2
      have z := off a hf
      exact ⟨rfl, by rw [upd_ne z] at hf; exact hf, by rw [upd_ne z]; exact hi, xs, hh, dpA_mono e1 hd⟩
    | dic a ds =>
      obtain ⟨rfl, hf, hi, hh⟩ := h2
      have z := off a hf
      exact ⟨rfl, by rw [upd_ne z] at hf; exact hf, by rw [upd_ne z]; exact hi, hh⟩
    | prs p n =>
      obtain ⟨rfl, hf, hi, xs, hh, hp⟩ := h2
      have z := off p hf
      exact ⟨rfl, by rw [upd_ne z] at hf; exact hf, by rw [upd_ne z]; exact hi, xs, hh, hp⟩
    | ins p C dx fs =>
      obtain ⟨rfl, hf, hi, vs, hh, hn, hx, hd⟩ := h2
      have z := off p hf
      exact ⟨rfl, by rw [upd_ne z] at hf; exact hf, by rw [upd_ne z]; exact hi, vs, hh, hn, e1 _ _ hx, dpA_mono e1 hd⟩
    | dct p kvs =>
      obtain ⟨rfl, hf, hi, vs, hh, hn, hd⟩ := h2
      have z := off p hf
      exact ⟨rfl, by rw [upd_ne z] at hf; exact hf, by rw [upd_ne z]; exact hi, vs, hh, hn, dpA_mono e1 hd⟩
    | seq ns =>
      obtain ⟨a, rfl, hs⟩ := h2
      exact ⟨a, rfl, e1.l hs⟩
    | exc C fs =>
      obtain ⟨a, D, vs, rfl, hc, hx, hn, hd⟩ := h2
      exact ⟨a, D, vs, rfl, hc, hx.mono e1, hn, dpA_mono e1 hd⟩
/-- a slot gets a cell that a call has made -/
theorem EnvI.setNew {I1 H1 : Hp} (E1 : EnvI K F I0 I1 σ H1 env) (E2 : EnvI K F I0 I σ H env) {D : Addr} {x : Val} (i : Nat) (hD : H1 D = none) (hx : VOk K F I H (.ref D) x) : EnvI K F I0 I (σ.set i (some (.ref D))) H (env.set i (some x)) := by
  refine ⟨E2.fh, E2.oi, E2.ih, E2.fr, by rw [List.length_set, List.length_set, E2.len], fun j y h => ?_, fun j l y z hjl hj hl cy cz => ?_⟩
  · by_cases e : i = j
    · subst e
      have hk : i < env.length := by
        have := (List.getElem?_eq_some_iff.mp h).1
        simpa using this
      rw [List.getElem?_set_self hk] at h
      cases h
      exact ⟨.ref D, List.getElem?_set_self (by rw [← E2.len]; exact hk), hx⟩
    · rw [List.getElem?_set_ne e] at h
      obtain ⟨w, h1, h2⟩ := E2.at_ j y h
      exact ⟨w, by rw [List.getElem?_set_ne e]; exact h1, h2⟩
  · have other : ∀ {m u}, i ≠ m → (env.set i (some x))[m]? = some (some u) → isCell u = true → (σ.set i (some (.ref D)))[m]? ≠ some (some (.ref D)) := fun {m u} km h c => by
      rw [List.getElem?_set_ne km] at h ⊢
      obtain ⟨w, h1, h2⟩ := E1.at_ m u h
      obtain ⟨a, o', ea, _, _, ha⟩ := h2.there c
      rw [h1, ea]
      intro q
      cases q
      rw [hD] at ha
      cases ha
    have self : ∀ {m u}, i = m → (env.set i (some x))[m]? = some (some u) → (σ.set i (some (.ref D)))[m]? = some (some (.ref D)) := fun {m u} km h => by
      subst km
      have hk : i < env.length := by
        have := (List.getElem?_eq_some_iff.mp h).1
        simpa using this
      exact List.getElem?_set_self (by rw [← E2.len]; exact hk)
    by_cases ei : i = j
    · rw [self ei hj]
      have ej : i ≠ l := fun e => hjl (ei.symm.trans e)
      exact fun q => other ej hl cz q.symm
    · by_cases ej : i = l
      · rw [self ej hl]
        exact other ei hj cy
      · rw [List.getElem?_set_ne ei] at hj ⊢
        rw [List.getElem?_set_ne ej] at hl ⊢
        exact E2.ne j l y z hjl hj hl cy cz
/-- what a slot's cell is said to be may be said otherwise -/
theorem EnvI.recell (E : EnvI K F I0 I σ H env) {k : Nat} {x y : Val} (hk : env[k]? = some (some x)) (cx : isCell x = true) (h : ∀ v, VOk K F I H v x → VOk K F I H v y) : EnvI K F I0 I σ H (env.set k (some y)) := by
  have kl : k < env.length := (List.getElem?_eq_some_iff.mp hk).1
  refine ⟨E.fh, E.oi, E.ih, E.fr, by rw [List.length_set, E.len], fun i z q => ?_, fun i j u w hij hi hj cu cw => ?_⟩
  · by_cases e : k = i
    · subst e
      rw [List.getElem?_set_self kl] at q
      cases q
      obtain ⟨v, hs, hv⟩ := E.at_ k _ hk
      exact ⟨v, hs, h v hv⟩
    · rw [List.getElem?_set_ne e] at q
      exact E.at_ i z q
  · have cell : ∀ {m u}, (env.set k (some y))[m]? = some (some u) → isCell u = true → ∃ t, env[m]? = some (some t) ∧ isCell t = true := fun {m u} q c => by
      by_cases e : k = m
      · subst e
        exact ⟨x, hk, cx⟩
      · rw [List.getElem?_set_ne e] at q
        exact ⟨u, q, c⟩
    obtain ⟨t, ht, ct⟩ := cell hi cu
    obtain ⟨t', ht', ct'⟩ := cell hj cw
    exact E.ne i j t t' hij ht ht' ct ct'
theorem EnvI.openP (E : EnvI K F I0 I σ H env) {k n : Nat} {p : Addr} (hk : env[k]? = some (some (.prs p n))) : ∃ a b c : Int, PurseOk [.int a, .int b, .int c] n ∧ EnvI K F I0 I σ H (env.set k (some (.lst p [.int a, .int b, .int c]))) := by
  obtain ⟨v, hs, rfl, hF, hI, xs, hH, hp⟩ := E.at_ k _ hk
  obtain ⟨a, b, c, e, hr⟩ := id hp
  subst e
  refine ⟨a, b, c, hp, E.recell hk rfl fun w hw => ?_⟩
  obtain ⟨rfl, h1, h2, ys, h3, _⟩ := hw
  exact ⟨rfl, h1, h2, _, hH, .cons (.int _) (.cons (.int _) (.cons (.int _) .nil))⟩
theorem EnvI.closeP (E : EnvI K F I0 I σ H env) {k n : Nat} {p : Addr} {a b c : Int} (hk : env[k]? = some (some (.lst p [.int a, .int b, .int c]))) (h : PurseOk [.int a, .int b, .int c] n) : EnvI K F I0 I σ H (env.set k (some (.prs p n))) :=
  E.recell hk rfl fun w hw => by
    obtain ⟨rfl, h1, h2, ys, h3, hd⟩ := hw
    refine ⟨rfl, h1, h2, ys, h3, ?_⟩
    cases hd with
    | cons d1 hd =>
      cases hd with
      | cons d2 hd =>
        cases hd with
        | cons d3 hd =>
          cases hd
          rw [dp_int d1, dp_int d2, dp_int d3]
          exact h
/-- the purse may do with less -/
theorem EnvI.less (E : EnvI K F I0 I σ H env) {k n m : Nat} {p : Addr} (hk : env[k]? = some (some (.prs p n))) (hm : m ≤ n) : EnvI K F I0 I σ H (env.set k (some (.prs p m))) := by
  have kl : k < env.length := (List.getElem?_eq_some_iff.mp hk).1
  refine ⟨E.fh, E.oi, E.ih, E.fr, by rw [List.length_set, E.len], fun i z h => ?_, fun i j u w hij hi hj cu cw => ?_⟩
  · by_cases e : k = i
    · subst e
      rw [List.getElem?_set_self kl] at h
      cases h
      obtain ⟨v, hs, rfl, hF, hI, xs, hH, hp⟩ := E.at_ k _ hk
      exact ⟨_, hs, rfl, hF, hI, xs, hH, hp.less hm⟩
    · rw [List.getElem?_set_ne e] at h
      exact E.at_ i z h
  · have cell : ∀ {q u}, (env.set k (some (.prs p m)))[q]? = some (some u) → isCell u = true → ∃ t, env[q]? = some (some t) ∧ isCell t = true := fun {q u} h c => by
      by_cases e : k = q
      · subst e
        exact ⟨_, hk, rfl⟩
      · rw [List.getElem?_set_ne e] at h
        exact ⟨u, h, c⟩
    obtain ⟨t, ht, ct⟩ := cell hi cu
    obtain ⟨t', ht', ct'⟩ := cell hj cw
    exact E.ne i j t t' hij ht ht' ct ct'
/-! ### slots forgotten -/
def wipeE (e : Env) : List Nat → Env
  | [] => e
  | v :: vs => (wipeE e vs).set v none
theorem wipeE_length (e : Env) : ∀ vs : List Nat, (wipeE e vs).length = e.length
  | [] => rfl
  | v :: vs => by unfold wipeE; rw [List.length_set, wipeE_length e vs]
theorem wipeE_some {e : Env} {i : Nat} {x : Val} : ∀ {vs : List Nat}, (wipeE e vs)[i]? = some (some x) → e[i]? = some (some x) ∧ i ∉ vs
  | [], h => ⟨h, by simp⟩
  | v :: vs, h => by
    unfold wipeE at h
    by_cases hi : v = i
    · subst hi
      by_cases hv : v < (wipeE e vs).length
      · rw [List.getElem?_set_self hv] at h; cases h
      · rw [List.getElem?_eq_none (by simpa using hv)] at h; cases h
    · rw [List.getElem?_set_ne hi] at h
      obtain ⟨h1, h2⟩ := wipeE_some h
      exact ⟨h1, by simp only [List.mem_cons, not_or]; exact ⟨fun e => hi e.symm, h2⟩⟩
theorem wipe_off (σ : L2.St) {i : Nat} : ∀ {vs : List Nat}, i ∉ vs → (wipe σ vs)[i]? = σ[i]?
  | [], _ => rfl
  | v :: vs, h => by
    simp only [List.mem_cons, not_or] at h
    unfold wipe
    rw [List.getElem?_set_ne (fun e => h.1 e.symm)]
    exact wipe_off σ h.2
theorem EnvI.wiped (E : EnvI K F I0 I σ H env) (vs : List Nat) : EnvI K F I0 I (wipe σ vs) H (wipeE env vs) :=
  ⟨E.fh, E.oi, E.ih, E.fr, by rw [wipeE_length, wipe_length]; exact E.len, fun i x h => by
    obtain ⟨h1, h2⟩ := wipeE_some h
    obtain ⟨v, h3, h4⟩ := E.at_ i x h1
    exact ⟨v, (wipe_off σ h2).trans h3, h4⟩, fun i j x y hij hi hj cx cy => by
    obtain ⟨h1, h2⟩ := wipeE_some hi
    obtain ⟨h3, h4⟩ := wipeE_some hj
    rw [wipe_off σ h2, wipe_off σ h4]
    exact E.ne i j x y hij h1 h3 cx cy⟩
theorem EnvI.unwiped {vs : List Nat} (E : EnvI K F I0 I (wipe σ vs) H env) : EnvI K F I0 I σ H env :=
  ⟨E.fh, E.oi, E.ih, E.fr, by rw [E.len, wipe_length], fun i x h => by
    obtain ⟨v, h3, h4⟩ := E.at_ i x h
    exact ⟨v, (wipe_some h3).1, h4⟩, fun i j x y hij hi hj cx cy => by
    obtain ⟨v, h3, _⟩ := E.at_ i x hi
    obtain ⟨w, h4, _⟩ := E.at_ j y hj
    have q := E.ne i j x y hij hi hj cx cy
    rw [h3, h4] at q
    rw [(wipe_some h3).1, (wipe_some h4).1]
    exact q⟩
end
end Lw

set_option Elab.async false
set_option linter.all false
set_option autoImplicit false
set_option maxRecDepth 100000
set_option maxHeartbeats 2000000
namespace Lw
open PySem PySem.Spec PyProof.Rows L2

/-! ### judgements -/
/-- te gives data d and leaves env', as P says -/
def EvE (K : PySem.W.Frag) (te : TE) (env : Env) (P : PyData → Env → Prop) : Prop :=
  ∀ (F I0 I : Hp) (σ : L2.St) (H : Hp), EnvI K F I0 I σ H env → ∀ Q : VK,
    (∀ (v : V) (I' H' : Hp) (d : PyData) (env' : Env), EnvI K F I0 I' σ H' env' → Ex I I' → Dq K I' v d → P d env' → Q v H') → te σ H Q
def EvA (K : PySem.W.Frag) (ta : TA) (env : Env) (P : List PyData → Env → Prop) : Prop :=
  ∀ (F I0 I : Hp) (σ : L2.St) (H : Hp), EnvI K F I0 I σ H env → ∀ Q : List V → Hp → Prop,
    (∀ (vs : List V) (I' H' : Hp) (ds : List PyData) (env' : Env), EnvI K F I0 I' σ H' env' → Ex I I' → DqAll K I' vs ds → P ds env' → Q vs H') → ta σ H Q
def EvT (K : PySem.W.Frag) (tt : TT) (env : Env) (P : Bool → Env → Prop) : Prop :=
  ∀ (F I0 I : Hp) (σ : L2.St) (H : Hp), EnvI K F I0 I σ H env → ∀ Q : Bool → Hp → Prop,
    (∀ (I' H' : Hp) (b : Bool) (env' : Env), EnvI K F I0 I' σ H' env' → Ex I I' → P b env' → Q b H') → tt σ H Q
/-- pure: just d, env as it was -/
abbrev Is {α : Type} (env : Env) (d : α) : α → Env → Prop := fun d' e => d' = d ∧ e = env
abbrev EvP (K : PySem.W.Frag) (te : TE) (env : Env) (d : PyData) : Prop := EvE K te env (Is env d)
abbrev EvPA (K : PySem.W.Frag) (ta : TA) (env : Env) (ds : List PyData) : Prop := EvA K ta env (Is env ds)
abbrev EvPT (K : PySem.W.Frag) (tt : TT) (env : Env) (b : Bool) : Prop := EvT K tt env (Is env b)

/-- an operator by values: what it gives is old or new -/
def RD (K : PySem.W.Frag) (r : R2) (a b c : PyData) : Prop := ∀ (I H : Hp) (x y : V), Ex I H → Dq K I x a → Dq K I y b → ∀ Q : VK,
  (∀ v, Dq K I v c → Q v H) → (∀ (p : Addr) (o : HO), H p = none → Dq K (upd I p o) (.ref p) c → Q (.ref p) (upd H p o)) → r x y H Q
def RU (K : PySem.W.Frag) (r : V → Hp → VK → Prop) (a c : PyData) : Prop := ∀ (I H : Hp) (x : V), Ex I H → Dq K I x a → ∀ Q : VK,
  (∀ v, Dq K I v c → Q v H) → (∀ (p : Addr) (o : HO), H p = none → Dq K (upd I p o) (.ref p) c → Q (.ref p) (upd H p o)) → r x H Q
/-- a call by values -/
def RC (K : PySem.W.Frag) (r : List V → Hp → VK → Prop) (as : List PyData) (c : PyData) : Prop := ∀ (I H : Hp) (xs : List V), Ex I H → DqAll K I xs as → ∀ Q : VK,
  (∀ v, Dq K I v c → Q v H) → (∀ (p : Addr) (o : HO), H p = none → Dq K (upd I p o) (.ref p) c → Q (.ref p) (upd H p o)) → r xs H Q
/-- a method by values -/
def RM (K : PySem.W.Frag) (r : V → List V → Hp → VK → Prop) (a : PyData) (as : List PyData) (c : PyData) : Prop := ∀ (I H : Hp) (x : V) (xs : List V), Ex I H → Dq K I x a → DqAll K I xs as → ∀ Q : VK,
  (∀ v, Dq K I v c → Q v H) → (∀ (p : Addr) (o : HO), H p = none → Dq K (upd I p o) (.ref p) c → Q (.ref p) (upd H p o)) → r x xs H Q

section
variable {K : PySem.W.Frag} {te ta tb : TE} {tt tu : TT} {tr : TA} {env : Env} {d a b c : PyData} {as : List PyData}
theorem EvE.imp {P P' : PyData → Env → Prop} (h : EvE K te env P) (k : ∀ d e, P d e → P' d e) : EvE K te env P' :=
  fun F I0 I σ H E Q q => h F I0 I σ H E Q fun v I' H' d e E' x hd hp => q v I' H' d e E' x hd (k d e hp)
theorem EvT.imp {P P' : Bool → Env → Prop} (h : EvT K tt env P) (k : ∀ d e, P d e → P' d e) : EvT K tt env P' :=
  fun F I0 I σ H E Q q => h F I0 I σ H E Q fun I' H' d e E' x hp => q I' H' d e E' x (k d e hp)
theorem EvA.imp {P P' : List PyData → Env → Prop} (h : EvA K tr env P) (k : ∀ d e, P d e → P' d e) : EvA K tr env P' :=
  fun F I0 I σ H E Q q => h F I0 I σ H E Q fun v I' H' d e E' x hd hp => q v I' H' d e E' x hd (k d e hp)
theorem ep_is (h : EvP K te env a) (e : a = b) : EvP K te env b := by rw [← e]; exact h
theorem et_is {p q : Bool} (h : EvPT K tt env p) (e : p = q) : EvPT K tt env q := by rw [← e]; exact h

/-! ### expressions, pure -/
theorem ep_var {i : Nat} (h : env[i]? = some (some (.dat d))) : EvP K (tVar i) env d := fun F I0 I σ H E Q q => by
  obtain ⟨v, h1, h2⟩ := E.at_ i _ h
  exact ⟨v, h1, q v I H d env E (Ex.refl I) h2 ⟨rfl, rfl⟩⟩
theorem ep_c {v : V} (h : ∀ I, Dq K I v d) : EvP K (tC v) env d := fun F I0 I σ H E Q q => q v I H d env E (Ex.refl I) (h I) ⟨rfl, rfl⟩
theorem ep_int {i : Int} : EvP K (tC (.int i)) env (.int i) := ep_c fun _ => .int i
theorem ep_str {x : Str} : EvP K (tC (.str x)) env (.str x) := ep_c fun _ => .str x
theorem ep_bl {p : Bool} : EvP K (tC (.bl p)) env (.bool p) := ep_c fun _ => .bl p
theorem ep_non : EvP K (tC .non) env .none := ep_c fun _ => .non
/-- any two parts, then an operator -/
theorem ev_op {r : R2} {Pa : PyData → Env → Prop} {P : PyData → Env → Prop} (ha : EvE K ta env Pa)
    (hb : ∀ a e, Pa a e → EvE K tb e fun b e' => ∃ c, RD K r a b c ∧ P c e') : EvE K (tOp r ta tb) env P := fun F I0 I σ H E Q q =>
  ha F I0 I σ H E _ fun x I1 H1 a e1 E1 x1 hx pa => hb a e1 pa F I0 I1 σ H1 E1 _ fun y I2 H2 b e2 E2 x2 hy ⟨c, hr, pc⟩ =>
    hr I2 H2 x y E2.ih (dp_mono x2 hx) hy Q (fun v hv => q v I2 H2 c e2 E2 (x1.trans x2) hv pc) fun p o hp hv =>
      q (.ref p) (upd I2 p o) (upd H2 p o) c e2 (E2.newD hp) ((x1.trans x2).trans (Ex.new (E2.ih.back hp))) hv pc
theorem ep_op {r : R2} (ha : EvP K ta env a) (hb : EvP K tb env b) (hr : RD K r a b c) : EvP K (tOp r ta tb) env c :=
  ev_op ha fun _ _ ⟨e1, e2⟩ => by
    subst e1 e2
    exact hb.imp fun _ _ ⟨e3, e4⟩ => by
      subst e3 e4
      exact ⟨c, hr, rfl, rfl⟩
theorem ev_un {r : V → Hp → VK → Prop} {Pa : PyData → Env → Prop} {P : PyData → Env → Prop} (ha : EvE K ta env fun a e => ∃ c, RU K r a c ∧ P c e) : EvE K (tUn r ta) env P := fun F I0 I σ H E Q q =>
  ha F I0 I σ H E _ fun x I1 H1 a e1 E1 x1 hx ⟨c, hr, pc⟩ =>
    hr I1 H1 x E1.ih hx Q (fun v hv => q v I1 H1 c e1 E1 x1 hv pc) fun p o hp hv => q (.ref p) (upd I1 p o) (upd H1 p o) c e1 (E1.newD hp) (x1.trans (Ex.new (E1.ih.back hp))) hv pc
theorem ep_un {r : V → Hp → VK → Prop} (ha : EvP K ta env a) (hr : RU K r a c) : EvP K (tUn r ta) env c :=
  ev_un (Pa := fun _ _ => True) (ha.imp fun _ _ ⟨e1, e2⟩ => by subst e1 e2; exact ⟨c, hr, rfl, rfl⟩)
theorem ea_nil : EvPA K tNil env [] := fun F I0 I σ H E Q q => q [] I H [] env E (Ex.refl I) .nil ⟨rfl, rfl⟩
theorem ev_cons {Pa : PyData → Env → Prop} {P : List PyData → Env → Prop} (ha : EvE K ta env Pa) (hr : ∀ a e, Pa a e → EvA K tr e fun as e' => P (a :: as) e') : EvA K (tCons ta tr) env P := fun F I0 I σ H E Q q =>
  ha F I0 I σ H E _ fun x I1 H1 a e1 E1 x1 hx pa => hr a e1 pa F I0 I1 σ H1 E1 _ fun xs I2 H2 as e2 E2 x2 hxs pas =>
    q (x :: xs) I2 H2 (a :: as) e2 E2 (x1.trans x2) (.cons (dp_mono x2 hx) hxs) pas
theorem ea_cons (ha : EvP K ta env a) (hr : EvPA K tr env as) : EvPA K (tCons ta tr) env (a :: as) :=
  ev_cons ha fun _ _ ⟨e1, e2⟩ => by
    subst e1 e2
    exact hr.imp fun _ _ ⟨e3, e4⟩ => by subst e3 e4; exact ⟨rfl, rfl⟩
theorem ev_tup {Pa : List PyData → Env → Prop} {P : PyData → Env → Prop} (h : EvA K tr env Pa) (k : ∀ ds e, Pa ds e → ds.length ≤ 100000 ∧ P (.tuple ds) e) : EvE K (tTup tr) env P := fun F I0 I σ H E Q q =>
  h F I0 I σ H E _ fun xs I1 H1 ds e1 E1 x1 hxs pa => by
    obtain ⟨hl, hp⟩ := k ds e1 pa
    refine ⟨Nat.le_trans (by rw [dpA_len hxs]; exact hl) (by decide), fun p np => ?_⟩
    have x2 : Ex I1 (upd I1 p (.tup xs)) := Ex.new (E1.ih.back np)
    exact q (.ref p) (upd I1 p (.tup xs)) _ (.tuple ds) e1 (E1.newD np) (x1.trans x2) (.tup (Or.inl (Or.inl upd_same)) (dpA_mono x2 hxs)) hp
theorem ep_tup (h : EvPA K tr env as) (hl : as.length ≤ 100000) : EvP K (tTup tr) env (.tuple as) :=
  ev_tup h fun _ _ ⟨e1, e2⟩ => by subst e1 e2; exact ⟨hl, rfl, rfl⟩
theorem ev_lst {Pa : List PyData → Env → Prop} {P : PyData → Env → Prop} (h : EvA K tr env Pa) (k : ∀ ds e, Pa ds e → ds.length ≤ 100000 ∧ P (.list ds) e) : EvE K (tLst tr) env P := fun F I0 I σ H E Q q =>
  h F I0 I σ H E _ fun xs I1 H1 ds e1 E1 x1 hxs pa => by
    obtain ⟨hl, hp⟩ := k ds e1 pa
    refine ⟨Nat.le_trans (by rw [dpA_len hxs]; exact hl) (by decide), fun p np => ?_⟩
    have x2 : Ex I1 (upd I1 p (.lst xs)) := Ex.new (E1.ih.back np)
    exact q (.ref p) (upd I1 p (.lst xs)) _ (.list ds) e1 (E1.newD np) (x1.trans x2) (.lst upd_same (dpA_mono x2 hxs)) hp
theorem ep_lst (h : EvPA K tr env as) (hl : as.length ≤ 100000) : EvP K (tLst tr) env (.list as) :=
  ev_lst h fun _ _ ⟨e1, e2⟩ => by subst e1 e2; exact ⟨hl, rfl, rfl⟩
theorem ev_cb {r : List V → Hp → VK → Prop} {P : PyData → Env → Prop} (h : EvA K tr env fun as e => ∃ c, RC K r as c ∧ P c e) : EvE K (tCB r tr) env P := fun F I0 I σ H E Q q =>
  h F I0 I σ H E _ fun xs I1 H1 as e1 E1 x1 hx ⟨c, hr, pc⟩ =>
    hr I1 H1 xs E1.ih hx Q (fun v hv => q v I1 H1 c e1 E1 x1 hv pc) fun p o hp hv => q (.ref p) (upd I1 p o) (upd H1 p o) c e1 (E1.newD hp) (x1.trans (Ex.new (E1.ih.back hp))) hv pc
theorem ep_cb {r : List V → Hp → VK → Prop} (h : EvPA K tr env as) (hr : RC K r as c) : EvP K (tCB r tr) env c :=
  ev_cb (h.imp fun _ _ ⟨e1, e2⟩ => by subst e1 e2; exact ⟨c, hr, rfl, rfl⟩)

/-! ### truth -/
theorem ev_andV {P : PyData → Env → Prop} (ha : EvE K ta env fun x e => ∃ p, x = .bool p ∧ if p = true then EvE K tb e P else P (.bool false) e) : EvE K (tAndV ta tb) env P := fun F I0 I σ H E Q q =>
  ha F I0 I σ H E _ fun x I1 H1 a e1 E1 x1 hx ⟨p, ea, hp⟩ => by
    subst ea
    have ex := dp_bl hx
    subst ex
    refine ⟨p, rfl, ?_⟩
    cases p with
    | true =>
      rw [if_pos rfl] at hp ⊢
      exact hp F I0 I1 σ H1 E1 Q fun v I2 H2 d e2 E2 x2 => q v I2 H2 d e2 E2 (x1.trans x2)
    | false =>
      rw [if_neg Bool.false_ne_true] at hp ⊢
      exact q (.bl false) I1 H1 _ e1 E1 x1 (.bl false) hp
theorem ep_andV {p q : Bool} (ha : EvP K ta env (.bool p)) (hb : p = true → EvP K tb env (.bool q)) : EvP K (tAndV ta tb) env (.bool (p && q)) :=
  ev_andV (ha.imp fun _ _ ⟨e1, e2⟩ => by
    subst e1 e2
    refine ⟨p, rfl, ?_⟩
    cases p with
    | true => rw [if_pos rfl]; exact hb rfl
    | false => rw [if_neg Bool.false_ne_true]; exact ⟨rfl, rfl⟩)
theorem ev_orV {P : PyData → Env → Prop} (ha : EvE K ta env fun x e => ∃ p, x = .bool p ∧ if p = true then P (.bool true) e else EvE K tb e P) : EvE K (tOrV ta tb) env P := fun F I0 I σ H E Q q =>
  ha F I0 I σ H E _ fun x I1 H1 a e1 E1 x1 hx ⟨p, ea, hp⟩ => by
    subst ea
    have ex := dp_bl hx
    subst ex
    refine ⟨p, rfl, ?_⟩
    cases p with
    | false =>
      rw [if_neg Bool.false_ne_true] at hp ⊢
      exact hp F I0 I1 σ H1 E1 Q fun v I2 H2 d e2 E2 x2 => q v I2 H2 d e2 E2 (x1.trans x2)
    | true =>
      rw [if_pos rfl] at hp ⊢
      exact q (.bl true) I1 H1 _ e1 E1 x1 (.bl true) hp
theorem ep_orV {p q : Bool} (ha : EvP K ta env (.bool p)) (hb : p = false → EvP K tb env (.bool q)) : EvP K (tOrV ta tb) env (.bool (p || q)) :=
  ev_orV (ha.imp fun _ _ ⟨e1, e2⟩ => by
    subst e1 e2
    refine ⟨p, rfl, ?_⟩
    cases p with
    | false => rw [if_neg Bool.false_ne_true]; exact hb rfl
    | true => rw [if_pos rfl]; exact ⟨rfl, rfl⟩)
theorem ep_notV {p : Bool} (ha : EvP K ta env (.bool p)) : EvP K (tNotV ta) env (.bool (!p)) := fun F I0 I σ H E Q q =>
  ha F I0 I σ H E _ fun x I1 H1 a e1 E1 x1 hx ⟨ea, ee⟩ => by
    subst ea ee
    have ex := dp_bl hx
    subst ex
    exact ⟨p, rfl, q (.bl (!p)) I1 H1 _ e1 E1 x1 (.bl _) ⟨rfl, rfl⟩⟩

/-! ### tests -/
theorem et_test {P : Bool → Env → Prop} (h : EvE K te env fun d e => ∃ p, d = .bool p ∧ P p e) : EvT K (tTest te) env P := fun F I0 I σ H E Q q =>
  h F I0 I σ H E _ fun x I1 H1 a e1 E1 x1 hx ⟨p, ea, hp⟩ => by
    subst ea
    exact ⟨p, dp_bl hx, q I1 H1 p e1 E1 x1 hp⟩
theorem et_b {P : Bool → Env → Prop} (h : EvE K te env fun d e => ∃ p, d = .bool p ∧ P p e) : EvT K (tB te) env P := fun F I0 I σ H E Q q =>
  h F I0 I σ H E _ fun x I1 H1 a e1 E1 x1 hx ⟨p, ea, hp⟩ => by
    subst ea
    exact ⟨p, dp_bl hx, q I1 H1 p e1 E1 x1 hp⟩
theorem ept_test {p : Bool} (h : EvP K te env (.bool p)) : EvPT K (tTest te) env p := et_test (h.imp fun _ _ ⟨e1, e2⟩ => ⟨p, e1, rfl, e2⟩)
theorem ept_b {p : Bool} (h : EvP K te env (.bool p)) : EvPT K (tB te) env p := et_b (h.imp fun _ _ ⟨e1, e2⟩ => ⟨p, e1, rfl, e2⟩)
theorem et_and {P : Bool → Env → Prop} (ha : EvT K tt env fun p e => if p = true then EvT K tu e P else P false e) : EvT K (tAnd tt tu) env P := fun F I0 I σ H E Q q =>
  ha F I0 I σ H E _ fun I1 H1 p e1 E1 x1 hp => by
    cases p with
    | true =>
      rw [if_pos rfl] at hp ⊢
      exact hp F I0 I1 σ H1 E1 Q fun I2 H2 d e2 E2 x2 => q I2 H2 d e2 E2 (x1.trans x2)
    | false =>
      rw [if_neg Bool.false_ne_true] at hp ⊢
      exact q I1 H1 _ e1 E1 x1 hp
theorem ept_and {p q : Bool} (ha : EvPT K tt env p) (hb : p = true → EvPT K tu env q) : EvPT K (tAnd tt tu) env (p && q) :=
  et_and (ha.imp fun p' e' hh => by
    rw [hh.1, hh.2]
    cases p with
    | true => rw [if_pos rfl]; exact hb rfl
    | false => rw [if_neg Bool.false_ne_true]; exact ⟨rfl, rfl⟩)
theorem et_or {P : Bool → Env → Prop} (ha : EvT K tt env fun p e => if p = true then P true e else EvT K tu e P) : EvT K (tOr tt tu) env P := fun F I0 I σ H E Q q =>
  ha F I0 I σ H E _ fun I1 H1 p e1 E1 x1 hp => by
    cases p with
    | false =>
      rw [if_neg Bool.false_ne_true] at hp ⊢
      exact hp F I0 I1 σ H1 E1 Q fun I2 H2 d e2 E2 x2 => q I2 H2 d e2 E2 (x1.trans x2)
    | true =>
      rw [if_pos rfl] at hp ⊢
      exact q I1 H1 _ e1 E1 x1 hp
theorem ept_or {p q : Bool} (ha : EvPT K tt env p) (hb : p = false → EvPT K tu env q) : EvPT K (tOr tt tu) env (p || q) :=
  et_or (ha.imp fun p' e' hh => by
    rw [hh.1, hh.2]
    cases p with
    | false => rw [if_neg Bool.false_ne_true]; exact hb rfl
    | true => rw [if_pos rfl]; exact ⟨rfl, rfl⟩)
theorem ept_not {p : Bool} (ha : EvPT K tt env p) : EvPT K (tNot tt) env (!p) := fun F I0 I σ H E Q q =>
  ha F I0 I σ H E _ fun I1 H1 p' e1 E1 x1 ⟨ea, ee⟩ => by
    subst ea ee
    exact q I1 H1 _ e1 E1 x1 ⟨rfl, rfl⟩
theorem ev_ifE {P : PyData → Env → Prop} (h : EvT K tt env fun p e => if p = true then EvE K ta e P else EvE K tb e P) : EvE K (tIf tt ta tb) env P := fun F I0 I σ H E Q q =>
  h F I0 I σ H E _ fun I1 H1 p e1 E1 x1 hp => by
    cases p with
    | true =>
      rw [if_pos rfl] at hp ⊢
      exact hp F I0 I1 σ H1 E1 Q fun v I2 H2 d e2 E2 x2 => q v I2 H2 d e2 E2 (x1.trans x2)
    | false =>
      rw [if_neg Bool.false_ne_true] at hp ⊢
      exact hp F I0 I1 σ H1 E1 Q fun v I2 H2 d e2 E2 x2 => q v I2 H2 d e2 E2 (x1.trans x2)

/-! ### operators -/
theorem rd_I0 {g : Int → Int → Int} {i j : Int} : RD K (rI0 fun i j => .int (g i j)) (.int i) (.int j) (.int (g i j)) := fun I H x y _ hx hy Q q _ => by
  cases dp_int hx
  cases dp_int hy
  exact ⟨i, j, rfl, rfl, q _ (.int _)⟩
theorem rd_IB {g : Int → Int → Bool} {i j : Int} : RD K (rI0 fun i j => .bl (g i j)) (.int i) (.int j) (.bool (g i j)) := fun I H x y _ hx hy Q q _ => by
  cases dp_int hx
  cases dp_int hy
  exact ⟨i, j, rfl, rfl, q _ (.bl _)⟩
theorem rd_I {C : Int → Int → Prop} {g : Int → Int → Int} {i j : Int} (hc : C i j) : RD K (rI C fun i j => .int (g i j)) (.int i) (.int j) (.int (g i j)) := fun I H x y _ hx hy Q q _ => by
  cases dp_int hx
  cases dp_int hy
  exact ⟨i, j, rfl, rfl, hc, q _ (.int _)⟩
theorem rd_eqD (sa : SeqAt.shaped a = true) (sb : SeqAt.shaped b = true) : RD K (rEqD K) a b (.bool (PyData.eqv a b)) := fun I H x y e hx hy Q q _ =>
  ⟨a, b, (dp_mono e hx).dp (SeqAt.canLay_of_shaped sa), (dp_mono e hy).dp (SeqAt.canLay_of_shaped sb), sa, sb, q _ (.bl _)⟩
theorem rd_neD (sa : SeqAt.shaped a = true) (sb : SeqAt.shaped b = true) : RD K (rNeD K) a b (.bool (!PyData.eqv a b)) := fun I H x y e hx hy Q q _ =>
  ⟨a, b, (dp_mono e hx).dp (SeqAt.canLay_of_shaped sa), (dp_mono e hy).dp (SeqAt.canLay_of_shaped sb), sa, sb, q _ (.bl _)⟩
theorem rd_eqI {i j : Int} : RD K rEq (.int i) (.int j) (.bool (decide (i = j))) := fun I H x y e hx hy Q q _ => by
  cases dp_int hx
  cases dp_int hy
  refine ⟨rfl, ?_⟩
  have z : decide (V.int i = V.int j) = decide (i = j) := by
    by_cases h : i = j
    · subst h
      simp
    · rw [decide_eq_false h, decide_eq_false fun q => h (V.int.inj q)]
  rw [z]
  exact q _ (.bl _)
theorem rd_neI {i j : Int} : RD K rNe (.int i) (.int j) (.bool (!decide (i = j))) := fun I H x y e hx hy Q q _ => by
  cases dp_int hx
  cases dp_int hy
  refine ⟨rfl, ?_⟩
  have z : decide (V.int i = V.int j) = decide (i = j) := by
    by_cases h : i = j
    · subst h
      simp
    · rw [decide_eq_false h, decide_eq_false fun q => h (V.int.inj q)]
  rw [z]
  exact q _ (.bl _)
def isNoneD : PyData → Bool
  | .none => true
  | _ => false
theorem rd_isN : RD K (fun x y H Q => y = .non ∧ Q (.bl (decide (x = .non))) H) a .none (.bool (isNoneD a)) := fun I H x y e hx hy Q q _ => by
  refine ⟨dp_non hy, ?_⟩
  cases hx <;> exact q _ (.bl _)
theorem rd_notN : RD K (fun x y H Q => y = .non ∧ Q (.bl (!decide (x = .non))) H) a .none (.bool (!isNoneD a)) := fun I H x y e hx hy Q q _ => by
  refine ⟨dp_non hy, ?_⟩
  cases hx <;> exact q _ (.bl _)
def toV : PyData → V
  | .none => .non
  | .bool b => .bl b
  | .int i => .int i
  | .str x => .str x
  | _ => .non
def flatD : PyData → Bool
  | .none | .bool _ | .int _ | .str _ => true
  | _ => false
theorem dp_flat {I : Hp} {v : V} (h : Dq K I v d) (f : flatD d = true) : v = toV d ∧ flatV v = true := by
  cases h with
  | non => exact ⟨rfl, rfl⟩
  | bl b => exact ⟨rfl, rfl⟩
  | int i => exact ⟨rfl, rfl⟩
  | str x => exact ⟨rfl, rfl⟩
  | lst _ _ => cases f
  | tup _ _ => cases f
  | dct _ _ _ _ => cases f
theorem dpA_flat {I : Hp} : ∀ {vs : List V} {ds : List PyData}, DqAll K I vs ds → ds.all flatD = true → vs = ds.map toV ∧ vs.all flatV = true
  | _, [], h, _ => by cases h; exact ⟨rfl, rfl⟩
  | _, d :: ds, h, f => by
    cases h with
    | cons h1 h2 =>
      rw [List.all_cons, Bool.and_eq_true] at f
      obtain ⟨e1, f1⟩ := dp_flat h1 f.1
      obtain ⟨e2, f2⟩ := dpA_flat h2 f.2
      exact ⟨by rw [e1, e2]; rfl, by rw [List.all_cons, f1, f2]; rfl⟩
def seqOf : PyData → Option (List PyData)
  | .list ds | .tuple ds => some ds
  | _ => none
theorem dp_seq {I : Hp} {v : V} {ds : List PyData} (h : Dq K I v d) (f : seqOf d = some ds) : ∃ p xs, v = .ref p ∧ (SqL K I p xs ∨ SqT K I p xs) ∧ DqAll K I xs ds := by
  cases h with
  | non => cases f
  | bl b => cases f
  | int i => cases f
  | str x => cases f
  | lst h1 h2 => cases f; exact ⟨_, _, rfl, .inl (.inl (.inl h1)), h2⟩
  | tup h1 h2 => cases f; exact ⟨_, _, rfl, .inr h1, h2⟩
  | dct _ _ _ _ => cases f
theorem rd_in {neg : Bool} {ds : List PyData} (hb : seqOf b = some ds) (ha : flatD a = true) (hf : ds.all flatD = true) : RD K (rIn K neg) a b (.bool (if neg then !inV (toV a) (ds.map toV) else inV (toV a) (ds.map toV))) := fun I H x y e hx hy Q q _ => by
  obtain ⟨p, xs, rfl, hs, hd⟩ := dp_seq hy hb
  obtain ⟨e1, f1⟩ := dp_flat hx ha
  obtain ⟨e2, f2⟩ := dpA_flat hd hf
  refine ⟨p, xs, rfl, ?_, f1, f2, ?_⟩
  · rcases hs with h | h
    · exact .inl (e.l h)
    · exact .inr (e.t h)
  · rw [e1, e2]
    exact q _ (.bl _)
theorem rd_ixT {ds : List PyData} {i : Int} (h : atI ds i = some c) : RD K (rIxT K) (.tuple ds) (.int i) c := fun I H x y e hx hy Q q _ => by
  obtain ⟨p, xs, rfl, hs, hd⟩ := dp_tup hx
  cases dp_int hy
  unfold atI at h
  cases hj : ixN ds.length i with
  | none => rw [hj] at h; cases h
  | some j =>
    rw [hj] at h
    have h' : ds[j]? = some c := h
    obtain ⟨v, hv, hvd⟩ := dpA_get hd h'
    refine ⟨p, xs, i, v, rfl, rfl, e.t hs, ?_, q v hvd⟩
    unfold atI
    rw [dpA_len hd, hj]
    exact hv
theorem rd_ixL {ds : List PyData} {i : Int} (h : atI ds i = some c) : RD K (rIxL K) (.list ds) (.int i) c := fun I H x y e hx hy Q q _ => by
  obtain ⟨p, xs, rfl, hs, hd⟩ := dp_lst hx
  cases dp_int hy
  unfold atI at h
  cases hj : ixN ds.length i with
  | none => rw [hj] at h; cases h
  | some j =>
    rw [hj] at h
    have h' : ds[j]? = some c := h
    obtain ⟨v, hv, hvd⟩ := dpA_get hd h'
    refine ⟨p, xs, i, v, rfl, rfl, e.l (.inl (.inl hs)), ?_, q v hvd⟩
    unfold atI
    rw [dpA_len hd, hj]
    exact hv
theorem rd_ixS {z : Str} {i : Int} {k : Nat} (hl : z.length ≤ 100000) (h : atI z.cps.toList i = some k) : RD K rIxS (.str z) (.int i) (.str ⟨#[k]⟩) := fun I H x y e hx hy Q q _ => by
  cases dp_str hx
  cases dp_int hy
  exact ⟨z, i, k, rfl, rfl, Nat.le_trans hl (by decide), h, q _ (.str _)⟩
theorem rd_ix {r : R2} (h : RD K (rIxL K) a b c ∨ RD K (rIxT K) a b c ∨ RD K rIxS a b c) : RD K (rIx K) a b c := fun I H x y e hx hy Q q q2 => by
  rcases h with h | h | h
  · exact .inl (h I H x y e hx hy Q q q2)
  · exact .inr (.inl (h I H x y e hx hy Q q q2))
  · exact .inr (.inr (h I H x y e hx hy Q q q2))
theorem rd_catT {ds es : List PyData} (hl : ds.length + es.length ≤ 100000) : RD K (rCatA K) (.tuple ds) (.tuple es) (.tuple (ds ++ es)) := fun I H x y e hx hy Q q q2 => by
  obtain ⟨p, xs, rfl, hs, hd⟩ := dp_tup hx
  obtain ⟨p', ys, rfl, hs', hd'⟩ := dp_tup hy
  refine ⟨p, p', xs, ys, rfl, rfl, e.t hs, e.t hs', Nat.le_trans (by rw [dpA_len hd, dpA_len hd']; exact hl) (by decide), fun z => ?_, fun _ z => ?_, fun _ _ np hp => ?_⟩
  · subst z
    have : ds = [] := by cases hd; rfl
    subst this
    exact q _ hy
  · subst z
    have : es = [] := by cases hd'; rfl
    subst this
    rw [List.append_nil] at q
    exact q _ hx
  · refine q2 _ _ hp (.tup (Or.inl (Or.inl upd_same)) (dpA_mono (Ex.new (e.back hp)) (dpA_app hd hd')))
theorem rd_inS {z : Str} {k : Nat} : RD K rInS (.str ⟨#[k]⟩) (.str z) (.bool (decide (k ∈ z.cps.toList))) := fun I H x y e hx hy Q q _ => by
  cases dp_str hx
  cases dp_str hy
  exact ⟨k, z, rfl, rfl, q _ (.bl _)⟩
theorem rd_addS {z u : Str} (hl : z.length + u.length ≤ 100000) : RD K (fun x y H Q => ∃ i j, x = .str i ∧ y = .str j ∧ i.length + j.length ≤ sizeLine ∧ Q (.str (i ++ j)) H) (.str z) (.str u) (.str (z ++ u)) := fun I H x y e hx hy Q q _ => by
  cases dp_str hx
  cases dp_str hy
  exact ⟨z, u, rfl, rfl, Nat.le_trans hl (by decide), q _ (.str _)⟩
end
end Lw

set_option Elab.async false
set_option linter.all false
set_option autoImplicit false
set_option maxRecDepth 100000
set_option maxHeartbeats 2000000
namespace Lw
open PySem PySem.Spec PyProof.Rows L2

theorem wipe_at (σ : L2.St) {i : Nat} : ∀ {vs : List Nat}, i ∈ vs → (wipe σ vs)[i]? = if i < σ.length then some none else none
  | [], h => by cases h
  | v :: vs, h => by
    unfold wipe
    by_cases hiv : v = i
    · subst hiv
      by_cases hl : v < σ.length
      · rw [List.getElem?_set_self (by rw [wipe_length]; exact hl), if_pos hl]
      · rw [List.getElem?_eq_none (by rw [List.length_set, wipe_length]; omega), if_neg hl]
    · rw [List.getElem?_set_ne hiv]
      rcases List.mem_cons.mp h with h | h
      · exact absurd h.symm hiv
      · exact wipe_at σ h
theorem wipe_eq {σ σ' : L2.St} {vs : List Nat} (hl : σ.length = σ'.length) (h : ∀ i, i ∉ vs → σ[i]? = σ'[i]?) : wipe σ vs = wipe σ' vs := by
  apply List.ext_getElem?
  intro i
  by_cases hi : i ∈ vs
  · rw [wipe_at σ hi, wipe_at σ' hi, hl]
  · rw [wipe_off σ hi, wipe_off σ' hi]
    exact h i hi
theorem wipe_idem (σ : L2.St) (vs : List Nat) : wipe (wipe σ vs) vs = wipe σ vs := wipe_eq (wipe_length σ vs) fun i hi => wipe_off σ hi
theorem wipe_set (σ : L2.St) {vs : List Nat} {i : Nat} (x : Option V) (hi : i ∈ vs) : wipe (σ.set i x) vs = wipe σ vs := wipe_eq (by rw [List.length_set]) fun j hj => List.getElem?_set_ne fun (e : i = j) => hj (by rw [← e]; exact hi)
theorem wipeE_at (e : Env) {i : Nat} : ∀ {vs : List Nat}, i ∈ vs → (wipeE e vs)[i]? = if i < e.length then some none else none
  | [], h => by cases h
  | v :: vs, h => by
    unfold wipeE
    by_cases hiv : v = i
    · subst hiv
      by_cases hl : v < e.length
      · rw [List.getElem?_set_self (by rw [wipeE_length]; exact hl), if_pos hl]
      · rw [List.getElem?_eq_none (by rw [List.length_set, wipeE_length]; omega), if_neg hl]
    · rw [List.getElem?_set_ne hiv]
      rcases List.mem_cons.mp h with h | h
      · exact absurd h.symm hiv
      · exact wipeE_at e h
theorem wipeE_off (e : Env) {i : Nat} : ∀ {vs : List Nat}, i ∉ vs → (wipeE e vs)[i]? = e[i]?
  | [], _ => rfl
  | v :: vs, h => by
    simp only [List.mem_cons, not_or] at h
    unfold wipeE
    rw [List.getElem?_set_ne (fun e => h.1 e.symm)]
    exact wipeE_off e h.2
theorem wipeE_idem (e : Env) (vs : List Nat) : wipeE (wipeE e vs) vs = wipeE e vs := by
  apply List.ext_getElem?
  intro i
  by_cases hi : i ∈ vs
  · rw [wipeE_at _ hi, wipeE_at e hi, wipeE_length]
  · rw [wipeE_off _ hi]
/-- the target stores to the block's own slots -/
def OwnG (g : TG) (vs : List Nat) : Prop := ∀ (W : L2.St) (x : V) (σ1 : L2.St) (H : Hp) (Q : L2.St → Hp → Prop), wipe σ1 vs = W → g x σ1 H (fun σ2 H2 => wipe σ2 vs = W → Q σ2 H2) → g x σ1 H fun σ2 H2 => wipe σ2 vs = W ∧ Q σ2 H2
def OwnGs (g : TGs) (vs : List Nat) : Prop := ∀ (W : L2.St) (xs : List V) (σ1 : L2.St) (H : Hp) (Q : L2.St → Hp → Prop), wipe σ1 vs = W → g xs σ1 H (fun σ2 H2 => wipe σ2 vs = W → Q σ2 H2) → g xs σ1 H fun σ2 H2 => wipe σ2 vs = W ∧ Q σ2 H2
theorem own_name {vs : List Nat} {i : Nat} (hi : i ∈ vs) : OwnG (gName i) vs := fun W x σ1 H Q hw q => by
  have z : wipe (σ1.set i (some x)) vs = W := (wipe_set σ1 _ hi).trans hw
  exact ⟨z, q z⟩
theorem owns_nil {vs : List Nat} : OwnGs gNil vs := fun W x σ1 H Q hw ⟨e, q⟩ => ⟨e, hw, q hw⟩
theorem owns_cons {vs : List Nat} {i : Nat} {gs : TGs} (hi : i ∈ vs) (h : OwnGs gs vs) : OwnGs (gCons (gName i) gs) vs := fun W x σ1 H Q hw ⟨v, r, e, q⟩ => ⟨v, r, e, h W r _ H Q ((wipe_set σ1 _ hi).trans hw) q⟩
theorem own_tup {K : PySem.W.Frag} {n : Nat} {vs : List Nat} {gs : TGs} (h : OwnGs gs vs) : OwnG (gTup K n gs) vs := fun W x σ1 H Q hw ⟨a, xs, e1, e2, e3, q⟩ => ⟨a, xs, e1, e2, e3, h W xs σ1 H Q hw q⟩
/-! ### statements -/
structure Post where
  nx : Env → Prop
  rt : PyData → Env → Prop
  bk : Env → Prop := fun _ => False
  ct : Env → Prop := fun _ => False
structure Ans (K : PySem.W.Frag) (F I0 : Hp) (D : Ends) (P : Post) : Prop where
  nx : ∀ (I' : Hp) (σ' : L2.St) (H' : Hp) (e : Env), EnvI K F I0 I' σ' H' e → P.nx e → D.nx σ' H'
  rt : ∀ (v : V) (I' : Hp) (σ' : L2.St) (H' : Hp) (d : PyData) (e : Env), EnvI K F I0 I' σ' H' e → Dq K I' v d → P.rt d e → D.rt v H'
  bk : ∀ (I' : Hp) (σ' : L2.St) (H' : Hp) (e : Env), EnvI K F I0 I' σ' H' e → P.bk e → D.bk σ' H'
  ct : ∀ (I' : Hp) (σ' : L2.St) (H' : Hp) (e : Env), EnvI K F I0 I' σ' H' e → P.ct e → D.ct σ' H'
def Run (K : PySem.W.Frag) (ts : TS) (env : Env) (P : Post) : Prop :=
  ∀ (F I0 I : Hp) (σ : L2.St) (H : Hp) (D : Ends), EnvI K F I0 I σ H env → Ans K F I0 D P → ts D σ H
section
variable {K : PySem.W.Frag} {te ta tb : TE} {tt : TT} {tr : TA} {t u : TS} {env : Env} {d a b c : PyData} {as : List PyData} {P : Post} {i : Nat}
theorem Run.imp {P' : Post} (h : Run K t env P) (k1 : ∀ e, P.nx e → P'.nx e) (k2 : ∀ d e, P.rt d e → P'.rt d e) (k3 : ∀ e, P.bk e → P'.bk e) (k4 : ∀ e, P.ct e → P'.ct e) : Run K t env P' :=
  fun F I0 I σ H D E A => h F I0 I σ H D E ⟨fun I' σ' H' e E' p => A.nx I' σ' H' e E' (k1 e p), fun v I' σ' H' d e E' hd p => A.rt v I' σ' H' d e E' hd (k2 d e p), fun I' σ' H' e E' p => A.bk I' σ' H' e E' (k3 e p), fun I' σ' H' e E' p => A.ct I' σ' H' e E' (k4 e p)⟩
theorem run_seq (h : Run K t env { P with nx := fun e => Run K u e P }) : Run K (tSeq t u) env P := fun F I0 I σ H D E A =>
  h F I0 I σ H { D with nx := u D } E ⟨fun I' σ' H' e E' p => p F I0 I' σ' H' D E' A, A.rt, A.bk, A.ct⟩
theorem run_next (h : P.nx env) : Run K tNext env P := fun F I0 I σ H D E A => A.nx I σ H env E h
theorem run_break (h : P.bk env) : Run K tBreak env P := fun F I0 I σ H D E A => A.bk I σ H env E h
theorem run_cont (h : P.ct env) : Run K tCont env P := fun F I0 I σ H D E A => A.ct I σ H env E h
theorem run_set (h : EvE K te env fun d e => P.nx (e.set i (some (.dat d)))) : Run K (tAsg te (gName i)) env P := fun F I0 I σ H D E A =>
  h F I0 I σ H E _ fun v I' H' d e E' _ hd p => A.nx I' _ H' _ (E'.setD i hd) p
theorem run_ret (h : EvE K te env P.rt) : Run K (tRet te) env P := fun F I0 I σ H D E A =>
  h F I0 I σ H E _ fun v I' H' d e E' _ hd p => A.rt v I' σ H' d e E' hd p
theorem run_retN (h : P.rt .none env) : Run K tRetN env P := fun F I0 I σ H D E A => A.rt .non I σ H .none env E .non h
theorem run_if (h : EvT K tt env fun p e => if p = true then Run K t e P else Run K u e P) : Run K (tIfS tt t u) env P := fun F I0 I σ H D E A =>
  h F I0 I σ H E _ fun I' H' p e E' _ hp => by
    cases p with
    | true =>
      rw [if_pos rfl] at hp ⊢
      exact hp F I0 I' σ H' D E' A
    | false =>
      rw [if_neg Bool.false_ne_true] at hp ⊢
      exact hp F I0 I' σ H' D E' A
theorem run_drop (h : EvE K te env fun _ e => P.nx e) : Run K (tDrop te) env P := fun F I0 I σ H D E A =>
  h F I0 I σ H E _ fun v I' H' d e E' _ hd p => A.nx I' σ H' e E' p
theorem run_aug {f : Int → Int → Int} {x : Int} (hx : env[i]? = some (some (.dat (.int x)))) (h : EvE K te env fun d e => ∃ y, d = .int y ∧ P.nx (e.set i (some (.dat (.int (f x y)))))) : Run K (tAug i te (ipI f)) env P := fun F I0 I σ H D E A => by
  obtain ⟨v, h1, h2⟩ := E.at_ i _ hx
  cases dp_int h2
  exact ⟨.int x, h1, h F I0 I σ H E _ fun w I' H' d e E' _ hd ⟨y, ey, p⟩ => by
    subst ey
    cases dp_int hd
    exact ⟨x, y, rfl, rfl, A.nx I' _ H' _ (E'.setD i (.int _)) p⟩⟩
/-- x = []: a list of one's own -/
theorem run_newL (h : ∀ p, P.nx (env.set i (some (.lst p [])))) : Run K (tAsg (tLst tNil) (gName i)) env P := fun F I0 I σ H D E A =>
  ⟨Nat.zero_le _, fun p hp => A.nx I _ _ _ (E.setC (x := .lst p []) i hp ⟨rfl, E.fh.back hp, E.ih.back hp, [], upd_same, .nil⟩) (h p)⟩
/-- x = {}: a dict of one's own -/
theorem run_newK (h : ∀ p, P.nx (env.set i (some (.dic p [])))) : Run K (tAsg tDNewK (gName i)) env P := fun F I0 I σ H D E A =>
  fun p hp => A.nx I _ _ _ (E.setC (x := .dic p []) i hp ⟨rfl, E.fh.back hp, E.ih.back hp, upd_same⟩) (h p)
/-- an own list is let go -/
theorem run_freeze {p : Addr} {ds : List PyData} (hk : env[i]? = some (some (.lst p ds))) (h : Run K t (env.set i (some (.dat (.list ds)))) P) : Run K t env P := fun F I0 I σ H D E A => by
  obtain ⟨I', _, _, E'⟩ := E.freeze hk
  exact h F I0 I' σ H D E' A
theorem run_less {n m : Nat} {p : Addr} (hk : env[i]? = some (some (.prs p n))) (hm : m ≤ n) (h : Run K t (env.set i (some (.prs p m))) P) : Run K t env P := fun F I0 I σ H D E A =>
  h F I0 I σ H D (E.less hk hm) A
theorem ev_less {n m : Nat} {p : Addr} {Q : PyData → Env → Prop} (hk : env[i]? = some (some (.prs p n))) (hm : m ≤ n) (h : EvE K te (env.set i (some (.prs p m))) Q) : EvE K te env Q := fun F I0 I σ H E =>
  h F I0 I σ H (E.less hk hm)
/-- xs.append(e), xs one's own -/
theorem run_app (h : EvE K te env fun d e => ∃ p ds, e[i]? = some (some (.lst p ds)) ∧ ds.length < 100000 ∧ P.nx (e.set i (some (.lst p (ds ++ [d]))))) :
    (∃ p ds, env[i]? = some (some (.lst p ds))) → Run K (tDrop (tBM K "list" rAppend (tVar i) (tCons te tNil))) env P := fun ⟨p0, ds0, h0⟩ F I0 I σ H D E A => by
  obtain ⟨v, h1, rfl, hf, hi, xs, hh, hd⟩ := E.at_ i _ h0
  refine ⟨.ref p0, h1, .inl ⟨rfl, xs, .inl (.inl hh)⟩, h F I0 I σ H E _ fun y I' H' d e E' _ hy ⟨a, ds, he, hl, p⟩ => ?_⟩
  obtain ⟨v', h1', ev, hf', hi', xs', hh', hd'⟩ := E'.at_ i _ he
  subst ev
  rw [h1] at h1'
  cases h1'
  refine ⟨p0, xs', y, rfl, rfl, hh', Nat.lt_of_lt_of_le (by rw [dpA_len hd']; exact hl) (by decide), ?_⟩
  exact A.nx I' σ _ _ (E'.putC (y := .lst p0 (ds ++ [d])) he rfl h1 hi' hf' ⟨rfl, hf', hi', _, upd_same, dpA_app hd' (.cons hy .nil)⟩) p
/-- xs[i] = e, xs one's own -/
theorem run_setI {ti : TE} (h : EvE K te env fun d e => ∃ p ds, e[i]? = some (some (.lst p ds)) ∧ EvE K ti e fun k e' => ∃ j : Nat, k = .int j ∧ j < ds.length ∧ e'[i]? = some (some (.lst p ds)) ∧ P.nx (e'.set i (some (.lst p (ds.set j d))))) :
    Run K (tAsg te (gSub (tVar i) ti rSetL)) env P := fun F I0 I σ H D E A =>
  h F I0 I σ H E _ fun y I1 H1 d e E1 _ hy ⟨a, ds, he, hti⟩ => by
    obtain ⟨v, h1, rfl, hf, hi, xs, hh, hd⟩ := E1.at_ i _ he
    refine ⟨.ref a, h1, hti F I0 I1 σ H1 E1 _ fun k I2 H2 kd e2 E2 x2 hk ⟨j, ek, hj, he2, p⟩ => ?_⟩
    subst ek
    cases dp_int hk
    obtain ⟨v', h1', ev, hf', hi', xs', hh', hd'⟩ := E2.at_ i _ he2
    have hl := dpA_len hd'
    refine ⟨a, xs', (j : Int), j, rfl, rfl, hh', ?_, ?_⟩
    · unfold ixN
      rw [if_pos (by omega), if_pos (by omega)]
      simp
    · exact A.nx I2 σ _ _ (E2.putC (y := .lst a (ds.set j d)) he2 rfl h1 hi' hf' ⟨rfl, hf', hi', _, upd_same, dpA_set j hd' (dp_mono x2 hy)⟩) p
/-! own dicts -/
theorem run_dput {k : Key} {q : Addr} {kvs : List (Key × V)} {w : V} {ty tv : TE} (hd : env[i]? = some (some (.dic q kvs))) (hv : ∀ σ H Q, Q w H → tv σ H Q) {kd : PyData} (hk : EvP K ty env kd) (ek : toV kd = kV k) (fk : flatD kd = true) (hl : kvs.length < 100000)
    (h : P.nx (env.set i (some (.dic q (putK kvs k w))))) : Run K (sDPut (tVar i) ty tv) env P := fun F I0 I σ H D E A => by
  refine hv σ H _ ?_
  obtain ⟨v, h1, rfl, hf, hi, hh⟩ := E.at_ i _ hd
  refine ⟨.ref q, h1, hk F I0 I σ H E _ fun y I1 H1 d e E1 _ hy ⟨e1, e2⟩ => ?_⟩
  subst e1 e2
  obtain ⟨v', h1', ev, hf', hi', hh'⟩ := E1.at_ i _ hd
  have ey := (dp_flat hy fk).1
  rw [ek] at ey
  subst ey
  refine ⟨q, _, rfl, DPut.k hh' (Nat.lt_of_lt_of_le hl (by decide)), ?_⟩
  exact A.nx I1 σ _ _ (E1.putC (y := .dic q (putK kvs k w)) hd rfl h1 hi' hf' ⟨rfl, hf', hi', upd_same⟩) h
theorem ep_din {k : Key} {q : Addr} {kvs : List (Key × V)} {ty : TE} {kd : PyData} (hk : EvP K ty env kd) (ek : toV kd = kV k) (fk : flatD kd = true) (hd : env[i]? = some (some (.dic q kvs))) : EvP K (tDIn ty (tVar i)) env (.bool (valV kvs k).isSome) := fun F I0 I σ H E Q qq =>
  hk F I0 I σ H E _ fun y I1 H1 d e E1 x1 hy ⟨e1, e2⟩ => by
    subst e1 e2
    obtain ⟨v, h1, rfl, hf, hi, hh⟩ := E1.at_ i _ hd
    have ey := (dp_flat hy fk).1
    rw [ek] at ey
    subst ey
    exact ⟨.ref q, h1, q, _, rfl, DGet.k hh, qq _ I1 H1 _ _ E1 x1 (.bl _) ⟨rfl, rfl⟩⟩
theorem ep_dnin {k : Key} {q : Addr} {kvs : List (Key × V)} {ty : TE} {kd : PyData} (hk : EvP K ty env kd) (ek : toV kd = kV k) (fk : flatD kd = true) (hd : env[i]? = some (some (.dic q kvs))) : EvP K (tDNotIn ty (tVar i)) env (.bool (!(valV kvs k).isSome)) := fun F I0 I σ H E Q qq =>
  hk F I0 I σ H E _ fun y I1 H1 d e E1 x1 hy ⟨e1, e2⟩ => by
    subst e1 e2
    obtain ⟨v, h1, rfl, hf, hi, hh⟩ := E1.at_ i _ hd
    have ey := (dp_flat hy fk).1
    rw [ek] at ey
    subst ey
    exact ⟨.ref q, h1, q, _, rfl, DGet.k hh, qq _ I1 H1 _ _ E1 x1 (.bl _) ⟨rfl, rfl⟩⟩
theorem ep_dget {k : Key} {q : Addr} {kvs : List (Key × V)} {ty : TE} {kd : PyData} {w : V} (hd : env[i]? = some (some (.dic q kvs))) (hk : EvP K ty env kd) (ek : toV kd = kV k) (fk : flatD kd = true) (hw : valV kvs k = some w) (hc : ∀ I, Dq K I w c) : EvP K (tDGet (tVar i) ty) env c := fun F I0 I σ H E Q qq => by
  obtain ⟨v, h1, rfl, hf, hi, hh⟩ := E.at_ i _ hd
  refine ⟨.ref q, h1, hk F I0 I σ H E _ fun y I1 H1 d e E1 x1 hy ⟨e1, e2⟩ => ?_⟩
  subst e1 e2
  obtain ⟨v', h1', ev, hf', hi', hh'⟩ := E1.at_ i _ hd
  have ey := (dp_flat hy fk).1
  rw [ek] at ey
  subst ey
  refine ⟨q, w, rfl, ?_, qq w I1 H1 c _ E1 x1 (hc _) ⟨rfl, rfl⟩⟩
  have g := DGet.k (k := k) hh'
  rw [hw] at g
  exact g
/-! own lists, looked at -/
theorem ep_lenL {a : Addr} {ds : List PyData} (h : env[i]? = some (some (.lst a ds))) : EvP K (tCB (fun xs H Q => ∃ x n, xs = [x] ∧ LenV K x H n ∧ Q (.int n) H) (tCons (tVar i) tNil)) env (.int ds.length) := fun F I0 I σ H E Q q => by
  obtain ⟨v, h1, rfl, hf, hi, xs, hh, hd⟩ := E.at_ i _ h
  refine ⟨.ref a, h1, .ref a, xs.length, rfl, .inl ⟨xs, .inl (.inl hh), rfl⟩, ?_⟩
  rw [dpA_len hd]
  exact q _ I H _ env E (Ex.refl I) (.int _) ⟨rfl, rfl⟩
theorem ep_inL {neg : Bool} {p : Addr} {ds : List PyData} (ha : EvP K ta env a) (fa : flatD a = true) (h : env[i]? = some (some (.lst p ds))) (ff : ds.all flatD = true) : EvP K (tOp (rIn K neg) ta (tVar i)) env (.bool (if neg then !inV (toV a) (ds.map toV) else inV (toV a) (ds.map toV))) := fun F I0 I σ H E Q q =>
  ha F I0 I σ H E _ fun y I1 H1 d e E1 x1 hy ⟨e1, e2⟩ => by
    subst e1 e2
    obtain ⟨v, h1, rfl, hf, hi, xs, hh, hd⟩ := E1.at_ i _ h
    obtain ⟨z1, f1⟩ := dp_flat hy fa
    obtain ⟨z2, f2⟩ := dpA_flat hd ff
    refine ⟨.ref p, h1, p, xs, rfl, .inl (.inl (.inl hh)), f1, f2, ?_⟩
    rw [z1, z2]
    exact q _ I1 H1 _ _ E1 x1 (.bl _) ⟨rfl, rfl⟩

/-- xs[j], xs one's own -/
theorem ep_ixOwn {p : Addr} {ds : List PyData} {j : Int} (h : env[i]? = some (some (.lst p ds))) (hb : EvP K tb env (.int j)) (hj : atI ds j = some c) : EvP K (tOp (rIxL K) (tVar i) tb) env c := fun F I0 I σ H E Q q => by
  obtain ⟨v, h1, rfl, hf, hi, xs, hh, hd⟩ := E.at_ i _ h
  refine ⟨.ref p, h1, hb F I0 I σ H E _ fun y I1 H1 d e E1 x1 hy ⟨z1, z2⟩ => ?_⟩
  subst z1 z2
  cases dp_int hy
  obtain ⟨v', h1', ev, hf', hi', xs', hh', hd'⟩ := E1.at_ i _ h
  unfold atI at hj
  cases hk : ixN ds.length j with
  | none => rw [hk] at hj; cases hj
  | some m =>
    rw [hk] at hj
    have hj' : ds[m]? = some c := hj
    obtain ⟨w, hw, hwd⟩ := dpA_get hd' hj'
    refine ⟨p, xs', j, w, rfl, rfl, .inl (.inl hh'), ?_, q w I1 H1 c _ E1 x1 hwd ⟨rfl, rfl⟩⟩
    unfold atI
    rw [dpA_len hd', hk]
    exact hw
theorem run_openP {n : Nat} {p : Addr} (hk : env[i]? = some (some (.prs p n))) (h : ∀ a b c : Int, PurseOk [.int a, .int b, .int c] n → Run K t (env.set i (some (.lst p [.int a, .int b, .int c]))) P) : Run K t env P := fun F I0 I σ H D E A => by
  obtain ⟨a, b, c, hp, E'⟩ := E.openP hk
  exact h a b c hp F I0 I σ H D E' A
theorem run_closeP {n : Nat} {p : Addr} {a b c : Int} (hk : env[i]? = some (some (.lst p [.int a, .int b, .int c]))) (hp : PurseOk [.int a, .int b, .int c] n) (h : Run K t (env.set i (some (.prs p n))) P) : Run K t env P := fun F I0 I σ H D E A =>
  h F I0 I σ H D (E.closeP hk hp) A
/-! ### calls of defs -/
/-- a def on data that changes nothing -/
def spD (K : PySem.W.Frag) (Pre : List PyData → Prop) (Ps : List PyData → PyData → Prop) : Sp := fun vs H Q _ => ∃ (I : Hp) (ds : List PyData), Ex I H ∧ DqAll K I vs ds ∧ Pre ds ∧
  ∀ (v : V) (I' H' : Hp) (d : PyData), Ex I I' → Ex I' H' → Ex H H' → (∀ a, H a ≠ none → I a = none → I' a = none) → Dq K I' v d → Ps ds d → Q v H'
theorem ev_call {Pre : List PyData → Prop} {Ps : List PyData → PyData → Prop} {E0 : XK} {R : PyData → Env → Prop} (h : EvA K tr env fun ds e => Pre ds ∧ ∀ d, Ps ds d → R d e) : EvE K (tCall (spD K Pre Ps) [] E0 tr) env R := fun F I0 I σ H E Q q =>
  h F I0 I σ H E _ fun vs I1 H1 ds e E1 x1 hvs ⟨hp, hk⟩ => by
    rw [List.append_nil]
    exact ⟨I1, ds, E1.ih, hvs, hp, fun v I2 H2 d a1 a2 a3 a4 hd hps => q v I2 H2 d e (E1.called a1 a2 a3 a4) (x1.trans a1) hd (hk d hps)⟩
theorem ep_call {Pre : List PyData → Prop} {f : List PyData → PyData} {E0 : XK} (h : EvPA K tr env as) (hp : Pre as) : EvP K (tCall (spD K Pre fun ds d => d = f ds) [] E0 tr) env (f as) :=
  ev_call (h.imp fun ds e ⟨e1, e2⟩ => by
    subst e1 e2
    exact ⟨hp, fun d ed => ⟨ed, rfl⟩⟩)
/-- the body of such a def -/
theorem body_D {Pre : List PyData → Prop} {Ps : List PyData → PyData → Prop} {N : List Str} {vs : List V} {H : Hp} {Q : VK} {E : XK} (h : spD K Pre Ps vs H Q E)
    (hb : ∀ ds, Pre ds → vs.length = ds.length → Run K t (ds.map (fun d => some (.dat d)) ++ List.replicate (N.length - ds.length) none) ⟨fun _ => Ps ds .none, fun d _ => Ps ds d, fun _ => False, fun _ => False⟩) :
    t { nx := fun _ H' => Q .non H', rt := Q } (start N vs) H := by
  obtain ⟨I, ds, hI, hvs, hp, k⟩ := h
  have hl := dpA_len hvs
  have E1 : EnvI K H I I (start N vs) H (ds.map (fun d => some (.dat d)) ++ List.replicate (N.length - ds.length) none) := by
    have hst : start N vs = vs.map some ++ List.replicate (N.length - vs.length) none := rfl
    refine ⟨Ex.refl H, Ex.refl I, hI, fun _ _ h => h, by rw [hst]; simp [hl], fun i x e => ?_, fun i j x y _ hi _ cx _ => ?_⟩
    · by_cases z : i < ds.length
      · rw [List.getElem?_append_left (by simpa using z), List.getElem?_map, List.getElem?_eq_getElem z] at e
        have e' : x = .dat ds[i] := by simpa using e.symm
        subst e'
        obtain ⟨v, hv, hd⟩ := dpA_get hvs (List.getElem?_eq_getElem z)
        refine ⟨v, ?_, hd⟩
        rw [hst, List.getElem?_append_left (by simpa [hl] using z), List.getElem?_map, hv]
        rfl
      · rw [List.getElem?_append_right (by simpa using z), List.getElem?_replicate] at e
        split at e <;> cases e
    · exfalso
      by_cases z : i < ds.length
      · rw [List.getElem?_append_left (by simpa using z), List.getElem?_map, List.getElem?_eq_getElem z] at hi
        have e' : x = .dat ds[i] := by simpa using hi.symm
        subst e'
        cases cx
      · rw [List.getElem?_append_right (by simpa using z), List.getElem?_replicate] at hi
        split at hi <;> cases hi
  exact hb ds hp hl H I I _ H _ E1 ⟨fun I' σ' H' e E' p => k .non I' H' .none E'.oi E'.ih E'.fh E'.fr .non p, fun v I' σ' H' d e E' hd p => k v I' H' d E'.oi E'.ih E'.fh E'.fr hd p, fun _ _ _ _ _ p => p.elim, fun _ _ _ _ _ p => p.elim⟩
def lessH (H : Hp) (p : Addr) : Hp := fun b => if b = p then none else H b
theorem lessH_same {H : Hp} {p : Addr} : lessH H p p = none := if_pos rfl
theorem lessH_ne {H : Hp} {p a : Addr} (h : a ≠ p) : lessH H p a = H a := if_neg h
theorem lessH_some {H : Hp} {p a : Addr} {o : HO} (h : lessH H p a = some o) : a ≠ p ∧ H a = some o := by
  by_cases z : a = p
  · subst z
    rw [lessH_same] at h
    cases h
  · rw [lessH_ne z] at h
    exact ⟨z, h⟩
/-- a def whose first argument is the purse -/
def spU (K : PySem.W.Frag) (cost : Nat) (Pre : List PyData → Prop) (Ps : List PyData → PyData → Prop) : Sp := fun vs H Q _ => ∃ (p : Addr) (n : Nat) (xs : List V) (I : Hp) (ds : List PyData), vs = .ref p :: xs ∧ (∃ ws, H p = some (.lst ws) ∧ PurseOk ws (n + cost)) ∧ I p = none ∧ Ex I H ∧ DqAll K I xs ds ∧ Pre ds ∧
  ∀ (v : V) (I' H' : Hp) (d : PyData), Ex I I' → Ex I' H' → (∀ a o, a ≠ p → H a = some o → H' a = some o) → (∀ a, H a ≠ none → I a = none → I' a = none) → (∃ ws, H' p = some (.lst ws) ∧ PurseOk ws n) → Dq K I' v d → Ps ds d → Q v H'
theorem ev_callU {cost : Nat} {Pre : List PyData → Prop} {Ps : List PyData → PyData → Prop} {E0 : XK} {R : PyData → Env → Prop} (h0 : ∃ p n, env[i]? = some (some (.prs p n)))
    (h : EvA K tr env fun ds e => Pre ds ∧ ∃ p n, env[i]? = some (some (.prs p (n + cost))) ∧ e = env ∧ ∀ d, Ps ds d → R d (e.set i (some (.prs p n)))) : EvE K (tCall (spU K cost Pre Ps) [] E0 (tCons (tVar i) tr)) env R := fun F I0 I σ H E Q q => by
  obtain ⟨p0, n0, h0⟩ := h0
  obtain ⟨v, h1, rfl, hf, hi, ws, hh, hpu⟩ := E.at_ i _ h0
  refine ⟨.ref p0, h1, h F I0 I σ H E _ fun vs I1 H1 ds e E1 x1 hvs ⟨hp, p, n, he, ee, hk⟩ => ?_⟩
  subst ee
  obtain ⟨v', h1', ev, hf', hi', ws', hh', hpu'⟩ := E1.at_ i _ he
  subst ev
  rw [h1] at h1'
  cases h1'
  rw [List.append_nil]
  exact ⟨p0, n, vs, I1, ds, rfl, ⟨ws', hh', hpu'⟩, hi', E1.ih, hvs, hp, fun v I2 H2 d a1 a2 a3 a4 ⟨us, a5, a6⟩ hd hps =>
    q v I2 H2 d _ (E1.calledC (y := .prs p0 n) he rfl h1 hf' a1 a2 a3 a4 ⟨rfl, hf', a4 p0 (by rw [hh']; exact fun z => nomatch z) hi', us, a5, a6⟩) (x1.trans a1) hd (hk d hps)⟩
/-- the body of such a def: env ends with some purse at slot 0 -/
theorem body_U {cost : Nat} {Pre : List PyData → Prop} {Ps : List PyData → PyData → Prop} {N : List Str} {vs : List V} {H : Hp} {Q : VK} {E : XK} (h : spU K cost Pre Ps vs H Q E)
    (hb : ∀ p n ds, Pre ds → vs.length = ds.length + 1 → Run K t (some (.prs p (n + cost)) :: (ds.map (fun d => some (.dat d)) ++ List.replicate (N.length - (ds.length + 1)) none)) ⟨fun e => (∃ m, n ≤ m ∧ e[0]? = some (some (.prs p m))) ∧ Ps ds .none, fun d e => (∃ m, n ≤ m ∧ e[0]? = some (some (.prs p m))) ∧ Ps ds d, fun _ => False, fun _ => False⟩) :
    t { nx := fun _ H' => Q .non H', rt := Q } (start N vs) H := by
  obtain ⟨p, n, xs, I, ds, rfl, ⟨ws, hpp, hok⟩, hIp, hI, hvs, hp, k⟩ := h
  have hl := dpA_len hvs
  have hst : start N (.ref p :: xs) = some (.ref p) :: (xs.map some ++ List.replicate (N.length - (xs.length + 1)) none) := rfl
  -- the entry heap, the purse left out
  have E1 : EnvI K (lessH H p) I I (start N (.ref p :: xs)) H (some (.prs p (n + cost)) :: (ds.map (fun d => some (.dat d)) ++ List.replicate (N.length - (ds.length + 1)) none)) := by
    refine ⟨fun a o h => ?_, Ex.refl I, hI, fun _ _ h => h, by rw [hst]; simp [hl], fun i x e => ?_, fun i j x y hij hi hj cx cy => ?_⟩
    · exact (lessH_some h).2
    · cases i with
      | zero =>
        have e' : x = .prs p (n + cost) := by simpa using e.symm
        subst e'
        exact ⟨.ref p, rfl, rfl, lessH_same, hIp, ws, hpp, hok⟩
      | succ i =>
        have e : (ds.map (fun d => some (Val.dat d)) ++ List.replicate (N.length - (ds.length + 1)) none)[i]? = some (some x) := by simpa using e
        by_cases z : i < ds.length
        · rw [List.getElem?_append_left (by simpa using z), List.getElem?_map, List.getElem?_eq_getElem z] at e
          have e' : x = .dat ds[i] := by simpa using e.symm
          subst e'
          obtain ⟨v, hv, hd⟩ := dpA_get hvs (List.getElem?_eq_getElem z)
          refine ⟨v, ?_, hd⟩
          rw [hst, List.getElem?_cons_succ, List.getElem?_append_left (by simpa [hl] using z), List.getElem?_map, hv]
          rfl
        · rw [List.getElem?_append_right (by simpa using z), List.getElem?_replicate] at e
          split at e <;> cases e
    · exfalso
      have no : ∀ {m u}, (some (Val.prs p (n + cost)) :: (ds.map (fun d => some (Val.dat d)) ++ List.replicate (N.length - (ds.length + 1)) none))[m + 1]? = some (some u) → isCell u = true → False := fun {m u} e c => by
        have e : (ds.map (fun d => some (Val.dat d)) ++ List.replicate (N.length - (ds.length + 1)) none)[m]? = some (some u) := by simpa using e
        by_cases z : m < ds.length
        · rw [List.getElem?_append_left (by simpa using z), List.getElem?_map, List.getElem?_eq_getElem z] at e
          have e' : u = .dat ds[m] := by simpa using e.symm
          subst e'
          cases c
        · rw [List.getElem?_append_right (by simpa using z), List.getElem?_replicate] at e
          split at e <;> cases e
      cases i with
      | succ i => exact no hi cx
      | zero =>
        cases j with
        | zero => exact hij rfl
        | succ j => exact no hj cy
  have out : ∀ {v : V} {I' : Hp} {σ' : L2.St} {H' : Hp} {d : PyData} {e : Env}, EnvI K (lessH H p) I I' σ' H' e → (∃ m, n ≤ m ∧ e[0]? = some (some (.prs p m))) → Dq K I' v d → Ps ds d → Q v H' := fun {v I' σ' H' d e} E' ⟨m, hm, h0⟩ hd hps => by
    obtain ⟨w, _, _, hF, hI', us, hH', hpo⟩ := E'.at_ 0 _ h0
    refine k v I' H' d E'.oi E'.ih (fun a o hap ha => E'.fh a o (by rw [lessH_ne hap]; exact ha)) (fun a h1 h2 => ?_) ⟨us, hH', hpo.less hm⟩ hd hps
    by_cases z : a = p
    · subst z
      exact hI'
    · exact E'.fr a (by rw [lessH_ne z]; exact h1) h2
  exact hb p n ds hp (by rw [List.length_cons, hl]) _ I I _ H _ E1 ⟨fun I' σ' H' e E' ⟨q1, q2⟩ => out E' q1 .non q2, fun v I' σ' H' d e E' hd ⟨q1, q2⟩ => out E' q1 hd q2, fun _ _ _ _ _ p => p.elim, fun _ _ _ _ _ p => p.elim⟩

/-! ### targets -/
def Tgt (K : PySem.W.Frag) (g : TG) (d : PyData) (env : Env) (R : Env → Prop) : Prop :=
  ∀ (F I0 I : Hp) (σ : L2.St) (H : Hp) (v : V), EnvI K F I0 I σ H env → Dq K I v d → ∀ Q : L2.St → Hp → Prop, (∀ σ' e', EnvI K F I0 I σ' H e' → R e' → σ'.length = σ.length → Q σ' H) → g v σ H Q
theorem tgt_name {R : Env → Prop} (h : R (env.set i (some (.dat d)))) : Tgt K (gName i) d env R := fun F I0 I σ H v E hd Q q => q _ _ (E.setD i hd) h (by rw [List.length_set])
def Tgts (K : PySem.W.Frag) (g : TGs) (ds : List PyData) (env : Env) (R : Env → Prop) : Prop :=
  ∀ (F I0 I : Hp) (σ : L2.St) (H : Hp) (vs : List V), EnvI K F I0 I σ H env → DqAll K I vs ds → ∀ Q : L2.St → Hp → Prop, (∀ σ' e', EnvI K F I0 I σ' H e' → R e' → σ'.length = σ.length → Q σ' H) → g vs σ H Q
theorem tgts_nil {R : Env → Prop} (h : R env) : Tgts K gNil [] env R := fun F I0 I σ H v E hd Q q => by
  cases hd
  exact ⟨rfl, q _ _ E h rfl⟩
theorem tgts_cons {g : TG} {gs : TGs} {ds : List PyData} {R : Env → Prop} (h : Tgt K g d env fun e => Tgts K gs ds e R) : Tgts K (gCons g gs) (d :: ds) env R := fun F I0 I σ H v E hd Q q => by
  cases hd with
  | cons h1 h2 =>
    exact ⟨_, _, rfl, h F I0 I σ H _ E h1 _ fun σ' e' E' k l => k F I0 I σ' H _ E' h2 Q fun σ2 e2 E2 r l2 => q σ2 e2 E2 r (l2.trans l)⟩
theorem tgt_tup {gs : TGs} {ds : List PyData} {n : Nat} {R : Env → Prop} (hn : ds.length = n) (h : Tgts K gs ds env R) : Tgt K (gTup K n gs) (.tuple ds) env R := fun F I0 I σ H v E hd Q q => by
  obtain ⟨a, xs, rfl, hs, hds⟩ := dp_tup hd
  exact ⟨a, xs, rfl, E.ih.t hs, (dpA_len hds).trans hn, h F I0 I σ H xs E hds Q q⟩
theorem run_asg {g : TG} (h : EvE K te env fun d e => Tgt K g d e P.nx) : Run K (tAsg te g) env P := fun F I0 I σ H D E A =>
  h F I0 I σ H E _ fun v I' H' d e E' _ hd k => k F I0 I' σ H' v E' hd _ fun σ' e' E2 r _ => A.nx I' σ' H' e' E2 r

/-! ### what is walked -/
def EvW (K : PySem.W.Frag) (wi : TI) (env : Env) (ds : List PyData) : Prop :=
  ∀ (F I0 I : Hp) (σ : L2.St) (H : Hp), EnvI K F I0 I σ H env → ∀ R : It → Hp → Prop,
    (∀ (J : It) (I' H' : Hp) (G : Hp → Prop) (Y : Nat → Hp → V → Hp → Prop), EnvI K F I0 I' σ H' env → Ex I I' → Walk J ds.length G Y → (∀ H2, Ex I' H2 → G H2) →
      (∀ (j : Nat) (H2 : Hp) (x : V) (H3 I2 : Hp), j < ds.length → Ex I' I2 → Ex I2 H2 → Y j H2 x H3 → ∃ d, ds[j]? = some d ∧ ((H3 = H2 ∧ Dq K I2 x d) ∨ ∃ T o, H2 T = none ∧ H3 = upd H2 T o ∧ Dq K (upd I2 T o) x d)) → R J H') → wi σ H R
theorem ew_tup {ds : List PyData} (h : EvP K te env (.tuple ds)) : EvW K (iTup K te) env ds := fun F I0 I σ H E R q =>
  h F I0 I σ H E _ fun v I1 H1 d e E1 x1 hd ⟨e1, e2⟩ => by
    subst e1 e2
    obtain ⟨a, xs, rfl, hs, hds⟩ := dp_tup hd
    have hl := dpA_len hds
    refine ⟨a, rfl, ⟨xs, E1.ih.t hs⟩, q _ I1 H1 _ _ E1 x1 (hl ▸ walk_tup (K := K) (a := a) (xs := xs)) (fun H2 x => x.t hs) fun j H2 x H3 I2 hj x2 x3 y => ?_⟩
    obtain ⟨eH, ex⟩ := y
    obtain ⟨w, hw, hwd⟩ := dpA_get hds (List.getElem?_eq_getElem hj)
    rw [hw] at ex
    cases ex
    exact ⟨_, List.getElem?_eq_getElem hj, .inl ⟨eH, dp_mono x2 hwd⟩⟩
theorem ew_list {ds : List PyData} (h : EvP K te env (.list ds)) : EvW K (iList K te) env ds := fun F I0 I σ H E R q =>
  h F I0 I σ H E _ fun v I1 H1 d e E1 x1 hd ⟨e1, e2⟩ => by
    subst e1 e2
    obtain ⟨a, xs, rfl, hs, hds⟩ := dp_lst hd
    have hl := dpA_len hds
    refine ⟨a, rfl, ⟨xs, E1.ih.l (.inl (.inl hs))⟩, q _ I1 H1 _ _ E1 x1 (hl ▸ walk_list (K := K) (a := a) (xs := xs)) (fun H2 x => x.l (.inl (.inl hs))) fun j H2 x H3 I2 hj x2 x3 y => ?_⟩
    obtain ⟨eH, ex⟩ := y
    obtain ⟨w, hw, hwd⟩ := dpA_get hds (List.getElem?_eq_getElem hj)
    rw [hw] at ex
    cases ex
    exact ⟨_, List.getElem?_eq_getElem hj, .inl ⟨eH, dp_mono x2 hwd⟩⟩
def signs (z : Str) : List PyData := z.cps.toList.map fun c => .str ⟨#[c]⟩
theorem ew_str {z : Str} (h : EvP K te env (.str z)) : EvW K (iStr te) env (signs z) := fun F I0 I σ H E R q =>
  h F I0 I σ H E _ fun v I1 H1 d e E1 x1 hd ⟨e1, e2⟩ => by
    subst e1 e2
    cases dp_str hd
    have hl : (signs z).length = z.cps.size := by simp [signs]
    refine ⟨z, rfl, q _ I1 H1 _ _ E1 x1 (hl ▸ walk_str (z := z)) (fun H2 x => trivial) fun j H2 x H3 I2 hj x2 x3 y => ?_⟩
    obtain ⟨eH, c, hc, ex⟩ := y
    subst ex
    refine ⟨.str ⟨#[c]⟩, ?_, .inl ⟨eH, .str _⟩⟩
    unfold signs
    rw [List.getElem?_map, Array.getElem?_toList, hc]
    rfl
def intsD (lo : Int) (n : Nat) : List PyData := (List.range n).map fun (k : Nat) => .int (lo + (k : Int))
theorem intsD_len (lo : Int) (n : Nat) : (intsD lo n).length = n := by simp [intsD]
theorem intsD_get {lo : Int} {n j : Nat} (h : j < n) : (intsD lo n)[j]? = some (.int (lo + (j : Int))) := by
  unfold intsD
  rw [List.getElem?_map, List.getElem?_range h]
  rfl
theorem ew_rng1 {n : Int} (hn : n ≤ 100000 ∧ -100000 ≤ n) (h : EvPA K tr env [.int n]) : EvW K (iRng1 tr) env (intsD 0 n.toNat) := fun F I0 I σ H E R q =>
  h F I0 I σ H E _ fun vs I1 H1 d e E1 x1 hd ⟨e1, e2⟩ => by
    subst e1 e2
    cases hd with
    | cons h1 h2 =>
      cases h2
      cases dp_int h1
      refine ⟨n, rfl, by omega, by omega, q _ I1 H1 _ _ E1 x1 (by rw [intsD_len]; exact walk_range (lo := 0) (n := n.toNat)) (fun H2 x => trivial) fun j H2 x H3 I2 hj x2 x3 y => ?_⟩
      obtain ⟨eH, ex⟩ := y
      subst ex
      rw [intsD_len] at hj
      exact ⟨_, intsD_get hj, .inl ⟨eH, .int _⟩⟩
/-- a for over it -/
theorem run_for {wi : TI} {g : TG} {ds : List PyData} (hw : EvW K wi env ds) (Inv : Nat → Env → Prop) (h0 : Inv 0 env)
    (hs : ∀ (j : Nat) (d : PyData) (e : Env), ds[j]? = some d → Inv j e → Tgt K g d e fun e' => Run K t e' ⟨Inv (j + 1), P.rt, P.nx, Inv (j + 1)⟩)
    (hd : ∀ e, Inv ds.length e → P.nx e) : Run K (tFor wi g t) env P := fun F I0 I σ H D E A =>
  hw F I0 I σ H E _ fun J I1 H1 G Y E1 x1 W hG hY => by
    refine for_it W (fun j σ' H' => ∃ I' e, EnvI K F I0 I' σ' H' e ∧ Ex I1 I' ∧ Inv j e) ⟨I1, env, E1, Ex.refl _, h0⟩ (fun j σ' H' _ ⟨I', e, E', x', _⟩ => hG H' (x'.trans E'.ih)) (fun j x σ' H' H3 hj hP hy => ?_) (fun σ' H' ⟨I', e, E', _, p⟩ => A.nx I' σ' H' e E' (hd e p))
    obtain ⟨I', e, E', x', p⟩ := hP
    obtain ⟨d, hdj, hx⟩ := hY j H' x H3 I' hj x' E'.ih hy
    have go : ∀ I3, Ex I' I3 → EnvI K F I0 I3 σ' H3 e → Dq K I3 x d → g x σ' H3 fun σ2 H2 => t { D with nx := fun σ' H' => ∃ I' e, EnvI K F I0 I' σ' H' e ∧ Ex I1 I' ∧ Inv (j + 1) e, ct := fun σ' H' => ∃ I' e, EnvI K F I0 I' σ' H' e ∧ Ex I1 I' ∧ Inv (j + 1) e, bk := D.nx } σ2 H2 := fun I3 x3 E3 hxd =>
      hs j d e hdj p F I0 I3 σ' H3 x E3 hxd _ fun σ2 e2 E2 r _ => by
        -- the turn keeps what the walk leans on: start the body with I0 := I3
        have E2' : EnvI K F I3 I3 σ2 H3 e2 := ⟨E2.fh, Ex.refl _, E2.ih, fun a h1 h2 => h2, E2.len, E2.at_, E2.ne⟩
        have back : ∀ {I4 : Hp} {σ4 : L2.St} {H4 : Hp} {e4 : Env}, EnvI K F I3 I4 σ4 H4 e4 → EnvI K F I0 I4 σ4 H4 e4 := fun {I4 σ4 H4 e4} E4 => ⟨E4.fh, E2.oi.trans E4.oi, E4.ih, fun a h1 h2 => E4.fr a h1 (E2.fr a h1 h2), E4.len, E4.at_, E4.ne⟩
        exact r F I3 I3 σ2 H3 _ E2' ⟨fun I4 σ4 H4 e4 E4 q => ⟨I4, e4, back E4, (x'.trans x3).trans E4.oi, q⟩, fun v I4 σ4 H4 d4 e4 E4 hd4 q => A.rt v I4 σ4 H4 d4 e4 (back E4) hd4 q, fun I4 σ4 H4 e4 E4 q => A.nx I4 σ4 H4 e4 (back E4) q, fun I4 σ4 H4 e4 E4 q => ⟨I4, e4, back E4, (x'.trans x3).trans E4.oi, q⟩⟩
    rcases hx with ⟨eH, hxd⟩ | ⟨T, o, hT, eH, hxd⟩
    · subst eH
      exact go I' (Ex.refl _) E' hxd
    · subst eH
      exact go _ (Ex.new (E'.ih.back hT)) (E'.newD hT) hxd
/-- a list comprehension over it: as, what is made so far; the block's own slots vs -/
theorem ev_lc {wi : TI} {g : TG} {vs : List Nat} {ds : List PyData} {R : PyData → Env → Prop} (hw : EvW K wi env ds) (hv : wipeE env vs = env) (hn : ds.length ≤ 50000) (Inv : Nat → List PyData → Env → Prop) (h0 : Inv 0 [] env)
    (hs : ∀ (j : Nat) (d : PyData) (as : List PyData) (e : Env), ds[j]? = some d → Inv j as e → Tgt K g d e fun e' => EvT K tt e' fun p e2 => if p = true then EvE K te e2 fun c e3 => Inv (j + 1) (as ++ [c]) (wipeE e3 vs) else Inv (j + 1) as (wipeE e2 vs))
    (hg : OwnG g vs)
    (hd : ∀ as e, Inv ds.length as e → wipeE e vs = e → R (.list as) e) : EvE K (tLc wi g tt te vs) env R := fun F I0 I σ H E Q q =>
  hw F I0 I σ H E _ fun J I1 H1 G Y E1 x1 W hG hY => fun D hD => by
    have hF : F D = none := E1.fh.back hD
    have h0D : I0 D = none := (E1.oi.trans E1.ih).back hD
    have start_ : EnvI K (upd F D (.lst [])) I0 I1 (wipe σ vs) (upd H1 D (.lst [])) env := by
      have z := (E1.guard (o := .lst []) hD).wiped vs
      rw [hv] at z
      exact z
    refine lc_it W (fun j H' => ∃ I' e acc as, EnvI K (upd F D (.lst acc)) I0 I' (wipe σ vs) H' e ∧ Ex I1 I' ∧ DqAll K I' acc as ∧ as.length ≤ j ∧ wipeE e vs = e ∧ Inv j as e) ⟨I1, env, [], [], start_, Ex.refl _, .nil, Nat.le_refl _, hv, h0⟩ (fun j H' _ ⟨I', e, acc, as, E', x', _⟩ => hG H' (x'.trans E'.ih)) (fun j x H' H3 hj hP hy => ?_) (fun H' ⟨I', e, acc, as, E', x', hacc, hlen, hwe, p⟩ => ?_)
    · obtain ⟨I', e, acc, as, E', x', hacc, hlen, hwe, p⟩ := hP
      obtain ⟨d, hdj, hx⟩ := hY j H' x H3 I' hj x' E'.ih hy
      have go : ∀ I3, Ex I' I3 → EnvI K (upd F D (.lst acc)) I0 I3 (wipe σ vs) H3 e → Dq K I3 x d → g x (wipe σ vs) H3 fun σ2 H2 => wipe σ2 vs = wipe σ vs ∧ tt σ2 H2 fun b H3 =>
          if b = true then te σ2 H3 fun y H4 => ∃ acc, H4 D = some (.lst acc) ∧ acc.length < sizeLine ∧ ∃ I' e acc' as, EnvI K (upd F D (.lst acc')) I0 I' (wipe σ vs) (upd H4 D (.lst (acc ++ [y]))) e ∧ Ex I1 I' ∧ DqAll K I' acc' as ∧ as.length ≤ j + 1 ∧ wipeE e vs = e ∧ Inv (j + 1) as e
          else ∃ I' e acc as, EnvI K (upd F D (.lst acc)) I0 I' (wipe σ vs) H3 e ∧ Ex I1 I' ∧ DqAll K I' acc as ∧ as.length ≤ j + 1 ∧ wipeE e vs = e ∧ Inv (j + 1) as e := fun I3 x3 E3 hxd => by
        refine hg (wipe σ vs) x (wipe σ vs) H3 _ (wipe_idem σ vs) (hs j d as e hdj p _ I0 I3 (wipe σ vs) H3 x E3 hxd _ fun σ2 e2 E2 r _ hw2 => ?_)
        · refine r _ I0 I3 σ2 H3 E2 _ fun I4 H4 b e4 E4 x4 hb => ?_
          cases b with
          | true =>
            rw [if_pos rfl] at hb ⊢
            refine hb _ I0 I4 σ2 H4 E4 _ fun y I5 H5 c e5 E5 x5 hy p5 => ?_
            have hH5 : H5 D = some (.lst acc) := E5.fh D _ upd_same
            have hIs : Ex I' I5 := (x3.trans x4).trans x5
            refine ⟨acc, hH5, Nat.lt_of_lt_of_le (by rw [dpA_len hacc]; exact Nat.lt_of_le_of_lt hlen hj) (Nat.le_trans hn (by decide)), I5, wipeE e5 vs, acc ++ [y], as ++ [c], ?_, x'.trans hIs, dpA_app (dpA_mono hIs hacc) (.cons hy .nil), by rw [List.length_append, List.length_singleton]; omega, wipeE_idem _ _, p5⟩
            have z := (E5.guardPut (o' := .lst (acc ++ [y])) h0D).wiped vs
            rw [hw2] at z
            exact z
          | false =>
            rw [if_neg Bool.false_ne_true] at hb ⊢
            have z := E4.wiped vs
            rw [hw2] at z
            exact ⟨I4, wipeE e4 vs, acc, as, z, x'.trans (x3.trans x4), dpA_mono (x3.trans x4) hacc, by omega, wipeE_idem _ _, hb⟩
      rcases hx with ⟨eH, hxd⟩ | ⟨T, o, hT, eH, hxd⟩
      · subst eH
        exact go I' (Ex.refl _) E' hxd
      · subst eH
        exact go _ (Ex.new (E'.ih.back hT)) (E'.newD hT) hxd
    · obtain ⟨hI, hH, E2⟩ := E'.unguard hF h0D
      have xn : Ex I' (upd I' D (.lst acc)) := Ex.new hI
      exact q (.ref D) _ H' (.list as) e E2.unwiped ((x1.trans x').trans xn) (.lst upd_same (dpA_mono xn hacc)) (hd as e p hwe)
end
end Lw

set_option Elab.async false
set_option linter.all false
set_option autoImplicit false
set_option maxRecDepth 100000
set_option maxHeartbeats 4000000

/-! ### enumerate(tuple), over the machine -/
namespace PySem
open Sem (wp)
theorem meets_enumerate_newB1 {v : Value} {o : Obj} {H : Heap → Prop} (B : Begins v o H) :
    Meets (Builtin.«enumerate.__new__» ⟨[.type "enumerate", v], []⟩) (fun _ R s => H s.heap ∧
      R (.ok (.ret (.ref (s.heap.push o).objs.size))) { s with heap := (s.heap.push o).push { cls := .type "enumerate", data := .fields #[.none, .bool false, .ref s.heap.objs.size, rawInt 0, .none, .none] } }) :=
  .of_wp fun prog w A R s h => by
    obtain ⟨hp, g, d, tk, os⟩ := s; obtain ⟨h1, h⟩ := h
    have hsub := sub_enumerate
    have q1 : ∀ {A' : Around} {E : Value → Shared → Prop} {Q : Value → Shared → Prop}, Q (.ref hp.objs.size) ⟨hp.push o, g, d, tk, os⟩ → wpAny (model prog w) A' (pyIter v) Q E ⟨hp, g, d, tk, os⟩ :=
      fun q => B.iter prog w _ _ ⟨hp, g, d, tk, os⟩ _ h1 q
    wp_walk using q1
    refine wpAny_stack_any fun st => wpAny_pure ?_
    split
    · rename_i c _ _ _ _ _
      cases (c == Value.type "enumerate")
      · wp_walk using q1
        exact ⟨_, rfl, h⟩
      · wp_walk using q1
        exact ⟨_, rfl, h⟩
    · wp_walk using q1
      exact ⟨_, rfl, h⟩
theorem enum_begins1 {prog : Program} {w : World} {A : Around} {E : Value → Shared → Prop} {s : Shared} {v : Value} {o : Obj} {H : Heap → Prop} {Q : Value → Shared → Prop} (B : Begins v o H) (h1 : H s.heap)
    (h : ∀ h', IsEnum h' (s.heap.objs.size + 1) s.heap.objs.size 0 .none → h'.get? s.heap.objs.size = some o → h'.objs.size = s.heap.objs.size + 2 →
      (∀ b o, s.heap.get? b = some o → h'.get? b = some o) → Q (.ref (s.heap.objs.size + 1)) { s with heap := h' }) :
    wpAny (model prog w) A (call (.type "enumerate") [v]) Q E s := by
  refine callType_new F.called_enumerate (by decide) (F.typeCall_enumerate_1 _) (F.newCall_enumerate_1 _) (fun obj => F.args_object_init_2 obj _) F.entry_enumerate_new
    (meets_enumerate_newB1 B) ⟨h1, ?_⟩
  have hz : (s.heap.push o).objs.size = s.heap.objs.size + 1 := Heap.size_push ..
  show _ ∧ _
  rw [hz]
  have he : IsEnum ((s.heap.push o).push { cls := .type "enumerate", data := .fields #[.none, .bool false, .ref s.heap.objs.size, rawInt 0, .none, .none] }) (s.heap.objs.size + 1) s.heap.objs.size 0 .none := by
    have := Heap.get?_push_size (s.heap.push o) (o := { cls := .type "enumerate", data := .fields #[.none, .bool false, .ref s.heap.objs.size, rawInt 0, .none, .none] }) rfl
    rw [hz] at this; exact this
  refine ⟨⟨_, he, rfl⟩, h _ he (Heap.get?_push_of_some _ (Heap.get?_push_size _ B.free)) (by rw [Heap.size_push, hz]) fun b o x => Heap.get?_push_of_some _ (Heap.get?_push_of_some _ x)⟩
end PySem
namespace L2
open PySem PySem.Spec PyProof.Rows
/-- the tuple at a, each item in a new pair, counted from k0 -/
def IteT (K : PySem.W.Frag) (k0 : Int) (a : Addr) : It :=
  ⟨fun i H => ∃ (xs : List V) (x : V), SqT K H a xs ∧ xs[i]? = some x, fun i H v H' => ∃ T x, v = .ref T ∧ H T = none ∧ H' = upd H T (.tup [.int (k0 + (i : Nat)), x]) ∧ ∀ xs, SqT K H a xs → xs[i]? = some x, fun i H => ∃ xs : List V, SqT K H a xs ∧ xs.length ≤ i⟩
theorem turn_enumT {P : Program} {w : World} {K : PySem.W.Frag} {elts : List Expr} {kk : Nat} {tpos : Pos} (k0 : Int) (a e it : Addr) :
    Turn P w K (.Tuple elts kk tpos) (IteT K k0 a) [e, it] e (fun i h => (∃ old, IsEnum h e it (k0 + ((i : Nat) : Int)) old) ∧ h.IsTupleIter it a i ∧ e ≠ it) where
  mem := by simp
  obj := fun i h st b hb => by
    obtain ⟨⟨old, he⟩, ⟨o, ho, hc, hd⟩, _⟩ := st
    have e' : b = e ∨ b = it := by simpa using hb
    rcases e' with z | z
    · rw [z]; exact ⟨_, he, fun v q => nomatch q⟩
    · rw [z]; exact ⟨o, ho, fun v q => by rw [hd] at q; cases q⟩
  keep := fun i h h' st k => let ⟨⟨old, he⟩, hi, hne⟩ := st; ⟨⟨old, k e (by simp) _ he⟩, hi.at fun o q => k it (by simp) o q, hne⟩
  item := by
    intro X hP hw hK hc i pins s σ H E I hf st hg
    subst hP hw hK
    obtain ⟨⟨old, he⟩, hit, hne⟩ := st
    obtain ⟨xs, x, hq, hx⟩ := hg
    obtain ⟨its, rv, p, hz⟩ := I.tuple hq
    obtain ⟨u, hu, ru⟩ := rv.get hx
    have hT0 : s.heap.IsTuple a its.toArray := p
    have hel : e < s.heap.objs.size := Heap.lt_size he
    have hil : it < s.heap.objs.size := by obtain ⟨_, q, _⟩ := hit; exact Heap.lt_size q
    have hai : a ≠ it := fun z => by
      obtain ⟨o1, e1, c1, _⟩ := hT0
      obtain ⟨o2, e2, c2, _⟩ := hit
      rw [z, e2] at e1
      cases e1
      exact absurd (Value.type.inj (c1.symm.trans c2)) (by decide)
    have hae : a ≠ e := fun z => by
      obtain ⟨o1, e1, c1, _⟩ := hT0
      rw [z, he] at e1
      cases e1
      exact absurd (Value.type.inj c1) (by decide)
    have hlt : i < its.toArray.size := by
      have h1 := (List.getElem?_eq_some_iff.mp hu).1
      simpa using h1
    have D : Draws X.prog X.w X.A.in1 it [it, a] its.toArray.size (fun i v => its.toArray[i]? = some v) (fun i h => h.IsTupleIter it a i ∧ h.IsTuple a its.toArray) := Draws.tuple (show X.A.in1.handled = none from I.ok.hd hc) it a hai its.toArray
    refine wpAny_pyNext_enum_itemC D he ⟨hit, hT0⟩ hlt hne (by simp [hne, Ne.symm hae]) fun x2 h' tk hP2 ho hst' hT hsz hk => ?_
    have ex : x2 = u := by
      have h1 : its.toArray[i]? = some u := by simpa using hu
      rw [h1] at hP2
      exact (Option.some.inj hP2).symm
    subst ex
    refine ⟨_, rfl, wpAny_letOwnedTupleGo_enum (s := { s with heap := h', toks := tk + 1 }) ho fun h'' he' sb => ?_⟩
    have hT2 : h''.get? s.heap.objs.size = some { cls := .type "tuple", data := .seq #[.int (k0 + (i : Int)) tk, x2] } := (sb.2 _ (Nat.ne_of_gt hel)).trans hT
    have new : ObjOk X.prog X.w (upd H s.heap.objs.size (.tup [.int (k0 + (i : Nat)), x])) h'' s.heap.objs.size (.tup [.int (k0 + (i : Nat)), x]) :=
      ⟨by show 2 ≤ sizeLine; decide, [.int (k0 + (i : Int)) tk, x2], .cons ⟨_, rfl⟩ (.cons ru .nil), ⟨_, hT2, rfl, _, rfl⟩⟩
    have I1 : Inv X pins σ (upd H s.heap.objs.size (.tup [.int (k0 + (i : Nat)), x])) { s with heap := h'', toks := tk + 1 } :=
      I.turnedNew (ch := [e, it]) (fun b ob hb q => (sb.2 b (fun z => hb (by simp [z]))).trans (hk b ob (fun z => hb (by simp [z])) (fun z => hb (by simp [z])) q)) hf (Nat.le_refl _) new
    refine ⟨.ref s.heap.objs.size, _, I1, rfl, ⟨_, x, rfl, I.hok.fresh (Nat.le_refl _), rfl, fun ys hy => by rw [I.tuple_inj hy hq]; exact hx⟩, ⟨⟨x2, ?_⟩, hst'.1.at fun o q => (sb.2 it (Ne.symm hne)).trans q, hne⟩, fun b hb => ?_⟩
    · have e1 : k0 + ((i + 1 : Nat) : Int) = k0 + (i : Int) + 1 := by omega
      rw [e1]; exact he'
    · have hb' : b < s.heap.objs.size := by
        have e' : b = e ∨ b = it := by simpa using hb
        rcases e' with z | z
        · rw [z]; exact hel
        · rw [z]; exact hil
      rw [upd_ne (Nat.ne_of_lt hb')]
      exact (hf b hb).1
  done := by
    intro X hP hw hK hc i pins s σ H E I hf st hg
    subst hP hw hK
    obtain ⟨⟨old, he⟩, hit, hne⟩ := st
    obtain ⟨xs, hq, hx⟩ := hg
    obtain ⟨its, rv, p, hz⟩ := I.tuple hq
    obtain ⟨f0, f1, f2, f3, f4, f5⟩ := hf it (by simp)
    have hT0 : s.heap.IsTuple a its.toArray := p
    have hai : a ≠ it := fun z => by
      obtain ⟨o1, e1, c1, _⟩ := hT0
      obtain ⟨o2, e2, c2, _⟩ := hit
      rw [z, e2] at e1
      cases e1
      exact absurd (Value.type.inj (c1.symm.trans c2)) (by decide)
    have hl := rv.length
    have hh1 : X.A.in1.handled = none := I.ok.hd hc
    have D : Draws X.prog X.w X.A.in1 it [it, a] i (fun _ _ => False) (fun j h => j = i ∧ h.IsTupleIter it a i ∧ h.IsTuple a its.toArray) :=
      { live := fun _ _ st => let ⟨o, ho, _⟩ := st.2.1; ⟨o, ho⟩
        frame := fun _ _ _ st hk => ⟨st.1, st.2.1.at fun o e => hk it (by simp) o e, st.2.2.at fun o e => hk a (by simp) o e⟩
        item := fun j s Q E hj st hQ => absurd st.1 (Nat.ne_of_lt hj)
        done := fun s Q E st hE => wpAny_nextOf_tuple_end hh1 st.2.1 st.2.2 (by simp; omega) hE }
    exact wpAny_pyNext_enum_endD D he ⟨rfl, hit, hT0⟩ fun h' eb => ⟨rfl, I.turned (t' := s.toks) (fun b o hb q => eb b o hb q) f0 f1 f3 f4 f5⟩
  self := fun A i s Q E st h => let ⟨⟨_, he⟩, _⟩ := st; wpAny_pyIter_enum he h
end L2

set_option Elab.async false
set_option linter.all false
set_option autoImplicit false
set_option maxRecDepth 100000
set_option maxHeartbeats 4000000
namespace Lw
open PySem PySem.Spec PyProof.Rows L2
/-! ### enumerate(tuple) -/
def iEnumT (K : PySem.W.Frag) (ta : TA) : TI := fun σ H R => ta σ H fun vs H1 => ∃ a xs, vs = [V.ref a] ∧ SqT K H1 a xs ∧ R (IteT K 0 a) H1
theorem pi_enumT {X : Cx} {e : Expr} {ta : TA} {p pos tpos : Pos} {elts : List Expr} {kk : Nat} (hg : Gl X "enumerate") (hm : X.mg "enumerate" = none) (ha : PA X [e] ta) (hs : starEach [e] X.env = [(false, eval e X.env)] := by rfl) :
    PI X (.Tuple elts kk tpos) (.Call (.Name "enumerate" p) [e] [] pos) (iEnumT X.K ta) := by
  refine ⟨fun pins s σ H R I h => ?_⟩
  refine Call_ (ld_blt I hg hm boot_enumerate (PyProof.Rows.callWith_type1 (thn (ha.run pos pins s σ H _ I h) fun us s1 ⟨vs, H1, I1, r1, q1⟩ => ?_) hs rfl))
  obtain ⟨a, xs, ex, hq, q⟩ := q1
  subst ex
  cases r1 with
  | cons r rr =>
    cases rr
    cases r
    obtain ⟨its, rv, p', hz⟩ := I1.tuple hq
    have hT : s1.heap.IsTuple a its.toArray := p'
    refine enum_begins1 (begins_tuple a its.toArray) hT fun h' he hit hsz hk => wpAny_pyIter_enum he ?_
    have I2 : Inv X pins σ H1 { s1 with heap := h' } := I1.kept (t' := s1.toks) hk
    have he0 : IsEnum h' (s1.heap.objs.size + 1) s1.heap.objs.size ((0 : Int) + ((0 : Nat) : Int)) .none := he
    refine ⟨s1.heap.objs.size + 1, [s1.heap.objs.size + 1, s1.heap.objs.size], _, _, H1, rfl, I2, turn_enumT 0 a (s1.heap.objs.size + 1) s1.heap.objs.size, ⟨⟨.none, he0⟩, ⟨_, hit, rfl, rfl⟩, Nat.succ_ne_self _⟩, fun b hb => ?_, q⟩
    have e' : b = s1.heap.objs.size + 1 ∨ b = s1.heap.objs.size := by simpa using hb
    have hle : s1.heap.objs.size ≤ b := by
      rcases e' with z | z
      · rw [z]; exact Nat.le_add_right _ _
      · rw [z]; exact Nat.le_refl _
    exact I1.fpOk hle (I1.hok.fresh hle)
theorem walk_enumT {K : PySem.W.Frag} {k0 : Int} {a : Addr} {xs : List V} : Walk (IteT K k0 a) xs.length (fun H => SqT K H a xs) (YPair (fun i => some (.int (k0 + (i : Nat)))) (fun i => xs[i]?)) := by
  refine ⟨fun i _ hi q => ⟨xs, xs[i], q, by simp [hi]⟩, fun _ q => ⟨xs, q, Nat.le_refl _⟩, fun i H v H' _ q y => ?_⟩
  obtain ⟨T, x, h1, h2, h3, h4⟩ := y
  exact ⟨T, .int (k0 + (i : Nat)), x, h1, h2, h3, rfl, h4 xs q⟩
/-- the pairs of an enumerate -/
def pairsD (k0 : Int) (ds : List PyData) : List PyData := ds.mapIdx fun (i : Nat) d => .tuple [.int (k0 + (i : Int)), d]
theorem pairsD_len (k0 : Int) (ds : List PyData) : (pairsD k0 ds).length = ds.length := by simp [pairsD]
theorem pairsD_get {k0 : Int} {ds : List PyData} {j : Nat} {p : PyData} (h : (pairsD k0 ds)[j]? = some p) : ∃ d, ds[j]? = some d ∧ p = .tuple [.int (k0 + (j : Int)), d] := by
  unfold pairsD at h
  rw [List.getElem?_mapIdx] at h
  cases e : ds[j]? with
  | none => rw [e] at h; cases h
  | some d =>
    rw [e] at h
    exact ⟨d, rfl, (Option.some.inj h).symm⟩
section
variable {K : PySem.W.Frag} {te ta tb tc : TE} {tt : TT} {tr : TA} {t u : TS} {env : Env} {d a b c : PyData} {as : List PyData} {P : Post} {i : Nat}
theorem ew_enumT {ds : List PyData} (h : EvPA K tr env [.tuple ds]) : EvW K (iEnumT K tr) env (pairsD 0 ds) := fun F I0 I σ H E R q =>
  h F I0 I σ H E _ fun vs I1 H1 d e E1 x1 hd ⟨e1, e2⟩ => by
    subst e1 e2
    cases hd with
    | cons hd h2 =>
      cases h2
      obtain ⟨a, xs, rfl, hs, hds⟩ := dp_tup hd
      have hl := dpA_len hds
      refine ⟨a, xs, rfl, E1.ih.t hs, q _ I1 H1 _ _ E1 x1 (by rw [pairsD_len, ← hl]; exact walk_enumT (K := K) (a := a) (xs := xs)) (fun H2 x => x.t hs) fun j H2 x H3 I2 hj x2 x3 y => ?_⟩
      obtain ⟨T, y1, y2, ev, hT, eH, g1, g2⟩ := y
      cases g1
      subst ev eH
      rw [pairsD_len] at hj
      obtain ⟨w, hw, hwd⟩ := dpA_get hds (List.getElem?_eq_getElem hj)
      have g2' : xs[j]? = some y2 := g2
      rw [hw] at g2'
      cases g2'
      refine ⟨.tuple [.int (0 + (j : Int)), ds[j]], ?_, .inr ⟨T, _, hT, rfl, ?_⟩⟩
      · unfold pairsD
        rw [List.getElem?_mapIdx, List.getElem?_eq_getElem hj]
        rfl
      · have x4 : Ex I2 (upd I2 T (.tup [.int (0 + (j : Int)), y2])) := Ex.new (x3.back hT)
        exact .tup (.inl (.inl upd_same)) (.cons (.int _) (.cons (dp_mono (x2.trans x4) hwd) .nil))
/-! ### built-in calls on data -/
def lenD : PyData → Option Nat
  | .str z => if z.length ≤ 100000 then some z.length else none
  | .list ds | .tuple ds => some ds.length
  | _ => none
theorem rc_len {n : Nat} (h : lenD d = some n) : RC K (fun xs H Q => ∃ x n, xs = [x] ∧ LenV K x H n ∧ Q (.int n) H) [d] (.int n) := fun I H xs e hx Q q _ => by
  cases hx with
  | cons h1 h2 =>
    cases h2
    refine ⟨_, n, rfl, ?_, q _ (.int _)⟩
    cases h1 with
    | non => cases h
    | bl b => cases h
    | int i => cases h
    | str z =>
      by_cases hz : z.length ≤ 100000
      · have h' : some z.length = some n := by rw [← h]; exact (if_pos hz).symm
        cases h'
        exact ⟨Nat.le_trans hz (by decide), rfl⟩
      · have h' : none = some n := by rw [← h]; exact (if_neg hz).symm
        cases h'
    | lst h1 h2 => cases h; exact .inl ⟨_, e.l (.inl (.inl h1)), (dpA_len h2).symm⟩
    | tup h1 h2 => cases h; exact .inr ⟨_, e.t h1, (dpA_len h2).symm⟩
    | dct _ _ _ _ => cases h
theorem dpA_bools {I : Hp} : ∀ {vs : List V} {bs : List Bool}, DqAll K I vs (bs.map .bool) → vs = bs.map V.bl
  | _, [], h => by cases h; rfl
  | _, b :: bs, h => by
    cases h with
    | cons h1 h2 =>
      rw [dp_bl h1, dpA_bools h2]
      rfl
theorem rc_all {bs : List Bool} : RC K (rAll K) [.list (bs.map .bool)] (.bool (bs.all id)) := fun I H xs e hx Q q _ => by
  cases hx with
  | cons h1 h2 =>
    cases h2
    obtain ⟨p, ys, rfl, hp, hd⟩ := dp_lst h1
    have ez := dpA_bools hd
    subst ez
    exact ⟨p, bs, rfl, .inl (.inl (e _ _ hp)), q _ (.bl _)⟩
def rTupOf (K : PySem.W.Frag) : List V → Hp → VK → Prop := fun xs H Q => ∃ p ys, xs = [.ref p] ∧ ((SqL K H p ys ∧ ∀ l, H l = none → Q (.ref l) (upd H l (.tup ys))) ∨ (SqT K H p ys ∧ Q (.ref p) H))
def rLstOf (K : PySem.W.Frag) : List V → Hp → VK → Prop := fun xs H Q => ∃ p ys, xs = [.ref p] ∧ (SqL K H p ys ∨ SqT K H p ys) ∧ ∀ l, H l = none → Q (.ref l) (upd H l (.lst ys))
theorem rc_tupL {ds : List PyData} : RC K (rTupOf K) [.list ds] (.tuple ds) := fun I H xs e hx Q _ q2 => by
  cases hx with
  | cons h1 h2 =>
    cases h2
    obtain ⟨p, ys, rfl, hp, hd⟩ := dp_lst h1
    exact ⟨p, ys, rfl, .inl ⟨.inl (.inl (e _ _ hp)), fun l hl => q2 l _ hl (.tup (.inl (.inl upd_same)) (dpA_mono (Ex.new (e.back hl)) hd))⟩⟩
theorem rc_lstT {ds : List PyData} : RC K (rLstOf K) [.tuple ds] (.list ds) := fun I H xs e hx Q _ q2 => by
  cases hx with
  | cons h1 h2 =>
    cases h2
    obtain ⟨p, ys, rfl, hp, hd⟩ := dp_tup h1
    exact ⟨p, ys, rfl, .inr (e.t hp), fun l hl => q2 l _ hl (.lst upd_same (dpA_mono (Ex.new (e.back hl)) hd))⟩
/-- x = list(t): a list of one's own -/
theorem run_ownT {ds : List PyData} (h : EvP K te env (.tuple ds)) (k : ∀ p, P.nx (env.set i (some (.lst p ds)))) : Run K (tAsg (tCB (rLstOf K) (tCons te tNil)) (gName i)) env P := fun F I0 I σ H D E A =>
  h F I0 I σ H E _ fun v I1 H1 d e E1 _ hd ⟨e1, e2⟩ => by
    subst e1 e2
    obtain ⟨p, ys, rfl, hp, hds⟩ := dp_tup hd
    exact ⟨p, ys, rfl, .inr (E1.ih.t hp), fun l hl => A.nx I1 _ _ _ (E1.setC (x := .lst l ds) i hl ⟨rfl, E1.fh.back hl, E1.ih.back hl, ys, upd_same, hds⟩) (k l)⟩
/-- x = [a, b, ..]: a list of one's own -/
theorem run_ownL {ds : List PyData} (h : EvPA K tr env ds) (hl : ds.length ≤ 100000) (k : ∀ p, P.nx (env.set i (some (.lst p ds)))) : Run K (tAsg (tLst tr) (gName i)) env P := fun F I0 I σ H D E A =>
  h F I0 I σ H E _ fun vs I1 H1 d e E1 _ hd ⟨e1, e2⟩ => by
    subst e1 e2
    refine ⟨Nat.le_trans (by rw [dpA_len hd]; exact hl) (by decide), fun l hl => A.nx I1 _ _ _ (E1.setC (x := .lst l _) i hl ⟨rfl, E1.fh.back hl, E1.ih.back hl, vs, upd_same, hd⟩) (k l)⟩
/-- tuple(xs), xs one's own -/
theorem ep_tupOwn {a : Addr} {ds : List PyData} (h : env[i]? = some (some (.lst a ds))) : EvP K (tCB (rTupOf K) (tCons (tVar i) tNil)) env (.tuple ds) := fun F I0 I σ H E Q q => by
  obtain ⟨v, h1, rfl, hf, hi, xs, hh, hd⟩ := E.at_ i _ h
  exact ⟨.ref a, h1, a, xs, rfl, .inl ⟨.inl (.inl hh), fun l hl => q _ _ _ _ env (E.newD hl) (Ex.new (E.ih.back hl)) (.tup (.inl (.inl upd_same)) (dpA_mono (Ex.new (E.ih.back hl)) hd)) ⟨rfl, rfl⟩⟩⟩
theorem rc_max2 {x y : Int} : RC K (fun xs H Q => ∃ i j, xs = [.int i, .int j] ∧ Q (.int (if j > i then j else i)) H) [.int x, .int y] (.int (if y > x then y else x)) := fun I H xs e hx Q q _ => by
  cases hx with
  | cons h1 h2 =>
    cases h2 with
    | cons h2 h3 =>
      cases h3
      cases dp_int h1
      cases dp_int h2
      exact ⟨x, y, rfl, q _ (.int _)⟩
theorem rc_min2 {x y : Int} : RC K (fun xs H Q => ∃ i j, xs = [.int i, .int j] ∧ Q (.int (if j < i then j else i)) H) [.int x, .int y] (.int (if y < x then y else x)) := fun I H xs e hx Q q _ => by
  cases hx with
  | cons h1 h2 =>
    cases h2 with
    | cons h2 h3 =>
      cases h3
      cases dp_int h1
      cases dp_int h2
      exact ⟨x, y, rfl, q _ (.int _)⟩
theorem rc_int1 {p : Bool} : RC K (fun xs H Q => (∃ i, xs = [.int i] ∧ Q (.int i) H) ∨ ∃ k, xs = [.bl k] ∧ Q (.int (if k then 1 else 0)) H) [.bool p] (.int (if p then 1 else 0)) := fun I H xs e hx Q q _ => by
  cases hx with
  | cons h1 h2 =>
    cases h2
    cases dp_bl h1
    exact .inr ⟨p, rfl, q _ (.int _)⟩
/-! ### isinstance -/
def tyD : PyData → String
  | .none => "NoneType"
  | .bool _ => "bool"
  | .int _ => "int"
  | .str _ => "str"
  | .list _ => "list"
  | .tuple _ => "tuple"
  | .dict _ => "dict"
theorem tyx_of {H : Hp} {v : V} (h : Dq K H v d) : TyX K H v (.type (tyD d)) := by
  cases h with
  | non => exact .base .non
  | bl b => exact .base (.bl b)
  | int i => exact .base (.int i)
  | str x => exact .base (.str x)
  | lst h1 _ => exact .base (.lst h1)
  | tup h1 _ =>
    rcases h1 with (h1 | ⟨o, h1⟩) | ⟨o, its, n, h1, h2, _⟩
    · exact .base (.tup h1)
    · exact .fTuple h1
    · exact .kTuple h1 h2
  | dct h1 _ _ _ => exact .fDict h1
theorem ep_isi {T : String} {r : Bool} (h : EvP K te env d) (hk : kitB (tyD d) T = some r) : EvP K (tCB (rIsi K) (tCons te (tCons (tC (.ty T)) tNil))) env (.bool r) := fun F I0 I σ H E Q q =>
  h F I0 I σ H E _ fun v I1 H1 d' e E1 x1 hd ⟨e1, e2⟩ => by
    subst e1 e2
    exact ⟨v, .ty T, _, _, r, rfl, .ty T, tyx_of (dp_mono E1.ih hd), kit_ty hk, q _ I1 H1 _ _ E1 x1 (.bl _) ⟨rfl, rfl⟩⟩
/-! ### chains -/
theorem ep_chain {r r' : R2} {p q : Bool} (ha : EvP K ta env a) (hb : EvP K tb env b) (h1 : RD K r a b (.bool p)) (hc : p = true → EvP K tc env c ∧ RD K r' b c (.bool q)) : EvP K (tChain r r' ta tb tc) env (.bool (p && q)) := fun F I0 I σ H E Q k =>
  ha F I0 I σ H E _ fun x I1 H1 d1 e1 E1 x1 hx ⟨z1, z2⟩ => by
    subst z1 z2
    refine hb F I0 I1 σ H1 E1 _ fun y I2 H2 d2 e2 E2 x2 hy ⟨z3, z4⟩ => ?_
    subst z3 z4
    refine h1 I2 H2 x y E2.ih (dp_mono x2 hx) hy _ (fun v hv => ?_) (fun p o hp hv => by cases hv)
    cases dp_bl hv
    refine ⟨p, rfl, ?_⟩
    cases p with
    | false => exact k _ I2 H2 _ _ E2 (x1.trans x2) (.bl false) ⟨rfl, rfl⟩
    | true =>
      obtain ⟨g1, g2⟩ := hc rfl
      refine g1 F I0 I2 σ H2 E2 _ fun w I3 H3 d3 e3 E3 x3 hw ⟨z5, z6⟩ => ?_
      subst z5 z6
      exact g2 I3 H3 y w E3.ih (dp_mono x3 hy) hw _ (fun v hv => k v I3 H3 _ _ E3 ((x1.trans x2).trans x3) hv ⟨rfl, rfl⟩) fun p o hp hv => by cases hv
/-! ### slices -/
def EvPO (K : PySem.W.Frag) (to : TO) (env : Env) (o : Option Int) : Prop :=
  ∀ (F I0 I : Hp) (σ : L2.St) (H : Hp), EnvI K F I0 I σ H env → ∀ Q : Option Int → Hp → Prop, (∀ (I' H' : Hp), EnvI K F I0 I' σ H' env → Ex I I' → Q o H') → to σ H Q
theorem eo_none : EvPO K tNoPart env none := fun F I0 I σ H E Q q => q I H E (Ex.refl I)
theorem eo_some {x : Int} (h : EvP K te env (.int x)) : EvPO K (tPart te) env (some x) := fun F I0 I σ H E Q q =>
  h F I0 I σ H E _ fun v I1 H1 d e E1 x1 hd ⟨e1, e2⟩ => by
    subst e1 e2
    exact ⟨x, dp_int hd, q I1 H1 E1 x1⟩
def RSl (K : PySem.W.Frag) (r : V → Option Int → Option Int → Hp → VK → Prop) (a : PyData) (lo hi : Option Int) (c : PyData) : Prop := ∀ (I H : Hp) (x : V), Ex I H → Dq K I x a → ∀ Q : VK,
  (∀ v, Dq K I v c → Q v H) → (∀ (p : Addr) (o : HO), H p = none → Dq K (upd I p o) (.ref p) c → Q (.ref p) (upd H p o)) → r x lo hi H Q
theorem ep_sl {r : V → Option Int → Option Int → Hp → VK → Prop} {tl th : TO} {lo hi : Option Int} (h : EvP K te env a) (hl : EvPO K tl env lo) (hh : EvPO K th env hi) (hr : RSl K r a lo hi c) : EvP K (tSl r te tl th) env c := fun F I0 I σ H E Q q =>
  h F I0 I σ H E _ fun x I1 H1 d1 e1 E1 x1 hx ⟨z1, z2⟩ => by
    subst z1 z2
    refine hl F I0 I1 σ H1 E1 _ fun I2 H2 E2 x2 => hh F I0 I2 σ H2 E2 _ fun I3 H3 E3 x3 => ?_
    exact hr I3 H3 x E3.ih (dp_mono (x2.trans x3) hx) Q (fun v hv => q v I3 H3 _ _ E3 ((x1.trans x2).trans x3) hv ⟨rfl, rfl⟩) fun p o hp hv =>
      q (.ref p) _ _ _ _ (E3.newD hp) (((x1.trans x2).trans x3).trans (Ex.new (E3.ih.back hp))) hv ⟨rfl, rfl⟩
def cutD (ds : List PyData) (lo hi : Option Int) : List PyData := (ds.drop (HT.sIx ds.length 0 lo)).take (HT.sIx ds.length ds.length hi - HT.sIx ds.length 0 lo)
theorem rsl_tup {ds : List PyData} {lo hi : Option Int} : RSl K (rSlA K) (.tuple ds) lo hi (.tuple (cutD ds lo hi)) := fun I H x e hx Q q q2 => by
  obtain ⟨p, xs, rfl, hs, hd⟩ := dp_tup hx
  have hl := dpA_len hd
  refine ⟨p, xs, rfl, e.t hs, fun z => ?_, fun _ l hn => q2 l _ hn (.tup (.inl (.inl upd_same)) (dpA_mono (Ex.new (e.back hn)) (dpA_cut lo hi hd)))⟩
  have ez : cutD ds lo hi = ds := by
    rw [hl] at z
    unfold cutD
    rw [z.1, z.2]
    simp
  rw [ez] at q
  exact q _ hx
theorem rsl_lst {ds : List PyData} {lo hi : Option Int} : RSl K (rSlL K) (.list ds) lo hi (.list (cutD ds lo hi)) := fun I H x e hx Q q q2 => by
  obtain ⟨p, xs, rfl, hs, hd⟩ := dp_lst hx
  exact ⟨p, xs, rfl, .inl (.inl (e _ _ hs)), fun l hn => q2 l _ hn (.lst upd_same (dpA_mono (Ex.new (e.back hn)) (dpA_cut lo hi hd)))⟩
/-! ### methods of texts, of lists -/
theorem ep_m0 {r : V → List V → Hp → VK → Prop} {z : Str} (h : EvP K te env (.str z)) (hr : RM K r (.str z) [] c) : EvP K (tM0 r te) env c := fun F I0 I σ H E Q q =>
  h F I0 I σ H E _ fun x I1 H1 d1 e1 E1 x1 hx ⟨z1, z2⟩ => by
    subst z1 z2
    exact ⟨⟨z, dp_str hx⟩, hr I1 H1 x [] E1.ih hx .nil Q (fun v hv => q v I1 H1 _ _ E1 x1 hv ⟨rfl, rfl⟩) fun p o hp hv => q (.ref p) _ _ _ _ (E1.newD hp) (x1.trans (Ex.new (E1.ih.back hp))) hv ⟨rfl, rfl⟩⟩
theorem ep_m1 {r : V → List V → Hp → VK → Prop} {z : Str} (h : EvP K te env (.str z)) (h1 : EvP K ta env a) (hr : RM K r (.str z) [a] c) : EvP K (tM1 r te ta) env c := fun F I0 I σ H E Q q =>
  h F I0 I σ H E _ fun x I1 H1 d1 e1 E1 x1 hx ⟨z1, z2⟩ => by
    subst z1 z2
    refine ⟨⟨z, dp_str hx⟩, h1 F I0 I1 σ H1 E1 _ fun y I2 H2 d2 e2 E2 x2 hy ⟨z3, z4⟩ => ?_⟩
    subst z3 z4
    exact hr I2 H2 x [y] E2.ih (dp_mono x2 hx) (.cons hy .nil) Q (fun v hv => q v I2 H2 _ _ E2 (x1.trans x2) hv ⟨rfl, rfl⟩) fun p o hp hv => q (.ref p) _ _ _ _ (E2.newD hp) ((x1.trans x2).trans (Ex.new (E2.ih.back hp))) hv ⟨rfl, rfl⟩
theorem rm_b {C : Str → Prop} {g : Str → Bool} {z : Str} (hc : C z) : RM K (fun x xs H Q => ∃ a, x = .str a ∧ xs = [] ∧ C a ∧ Q (.bl (g a)) H) (.str z) [] (.bool (g z)) := fun I H x xs e hx hxs Q q _ => by
  cases dp_str hx
  cases hxs
  exact ⟨z, rfl, rfl, hc, q _ (.bl _)⟩
theorem rm_s {C : Str → Prop} {g : Str → Str} {z : Str} (hc : C z) : RM K (fun x xs H Q => ∃ a, x = .str a ∧ xs = [] ∧ C a ∧ Q (.str (g a)) H) (.str z) [] (.str (g z)) := fun I H x xs e hx hxs Q q _ => by
  cases dp_str hx
  cases hxs
  exact ⟨z, rfl, rfl, hc, q _ (.str _)⟩
end
end Lw

set_option Elab.async false
set_option linter.all false
set_option autoImplicit false
set_option maxRecDepth 100000
set_option maxHeartbeats 4000000
namespace Lw
open PySem PySem.Spec PyProof.Rows L2
/-! ### defs of the text, by name -/
/-- the def st stands under the name x -/
structure DefAt (K : PySem.W.Frag) (mg : Str → Option Value) (x : Str) (st : Stmt) (ps : List Str) : Prop where
  ex : ∃ (f : Addr) (fd : FuncData), L2.Fun K x x st f fd ∧ mg x = some (.ref f) ∧ Binds K fd ps []
/-- it keeps a promise -/
structure Cal (P : Program) (w : World) (K : PySem.W.Frag) (mg : Str → Option Value) (base : Heap) (k : Nat) (x : Str) (sp : Sp) : Prop where
  ex : ∃ (f : Addr) (fd : FuncData) (ps : List Str), FnOk P w K mg base L2.CX0 k f fd ps sp ∧ mg x = some (.ref f) ∧ PySem.W.keepIn K (.ref f) = true ∧ Binds K fd ps []
section
variable {P : Program} {w : World} {K : PySem.W.Frag} {mg : Str → Option Value} {base : Heap}
theorem DefAt.cal {x : Str} {st : Stmt} {N ps : List Str} {k : Nat} {sp : Sp} (D : DefAt K mg x st ps) (S : FnScope N ps (defScope st)) (len : ∀ vs H Q E, sp vs H Q E → vs.length = ps.length)
    (hbody : ∀ (f : Addr) (cdv : Value) (A : Around) (outer : List PySem.Env) (s : Shared) (H : Hp) (vs : List V) (Q : VK) (E : XK), Room k (A.deeper (envOfC x (defScope st) s.heap.objs.size f cdv)) → sp vs H Q E →
      ∃ t, PSs (cxOf L2.CX0 P w K mg base N x (defScope st) f cdv A outer s H E).nox (defBody st) t ∧ t { nx := fun _ H' => Q .non H', rt := Q } (start N vs) H) : Cal P w K mg base (k + 1) x sp := by
  obtain ⟨f, fd, F, hm, hb⟩ := D.ex
  exact ⟨f, fd, ps, F.ok S len (fun cdv A outer s H vs Q E hr h => hbody f cdv A outer s H vs Q E hr h), hm, F.kp, hb⟩
/-- a def on data -/
theorem DefAt.calD {x : Str} {st : Stmt} {N ps : List Str} {k : Nat} {Pre : List PyData → Prop} {Ps : List PyData → PyData → Prop} (D : DefAt K mg x st ps) (S : FnScope N ps (defScope st)) (len : ∀ ds, Pre ds → ds.length = ps.length)
    (hbody : ∀ (f : Addr) (cdv : Value) (A : Around) (outer : List PySem.Env) (s : Shared) (H : Hp) (E : XK), Room k (A.deeper (envOfC x (defScope st) s.heap.objs.size f cdv)) →
      ∃ t, PSs (cxOf L2.CX0 P w K mg base N x (defScope st) f cdv A outer s H E).nox (defBody st) t ∧
        ∀ ds, Pre ds → Run K t (ds.map (fun d => some (.dat d)) ++ List.replicate (N.length - ds.length) none) ⟨fun _ => Ps ds .none, fun d _ => Ps ds d, fun _ => False, fun _ => False⟩) : Cal P w K mg base (k + 1) x (spD K Pre Ps) :=
  D.cal S (fun vs H Q E h => by
    obtain ⟨I, ds, _, hv, hp, _⟩ := h
    rw [dpA_len hv]
    exact len ds hp) fun f cdv A outer s H vs Q E hr h => by
    obtain ⟨t, h1, h2⟩ := hbody f cdv A outer s H E hr
    exact ⟨t, h1, body_D h fun ds hp _ => h2 ds hp⟩
/-- a def whose first argument is the purse -/
theorem DefAt.calU {x : Str} {st : Stmt} {N ps : List Str} {k cost : Nat} {Pre : List PyData → Prop} {Ps : List PyData → PyData → Prop} (D : DefAt K mg x st ps) (S : FnScope N ps (defScope st)) (len : ∀ ds, Pre ds → ds.length + 1 = ps.length)
    (hbody : ∀ (f : Addr) (cdv : Value) (A : Around) (outer : List PySem.Env) (s : Shared) (H : Hp) (E : XK), Room k (A.deeper (envOfC x (defScope st) s.heap.objs.size f cdv)) →
      ∃ t, PSs (cxOf L2.CX0 P w K mg base N x (defScope st) f cdv A outer s H E).nox (defBody st) t ∧
        ∀ p n ds, Pre ds → Run K t (some (.prs p (n + cost)) :: (ds.map (fun d => some (.dat d)) ++ List.replicate (N.length - (ds.length + 1)) none)) ⟨fun e => (∃ m, n ≤ m ∧ e[0]? = some (some (.prs p m))) ∧ Ps ds .none, fun d e => (∃ m, n ≤ m ∧ e[0]? = some (some (.prs p m))) ∧ Ps ds d, fun _ => False, fun _ => False⟩) : Cal P w K mg base (k + 1) x (spU K cost Pre Ps) :=
  D.cal S (fun vs H Q E h => by
    obtain ⟨p, n, xs, I, ds, rfl, _, _, _, hv, hp, _⟩ := h
    rw [List.length_cons, dpA_len hv]
    exact len ds hp) fun f cdv A outer s H vs Q E hr h => by
    obtain ⟨t, h1, h2⟩ := hbody f cdv A outer s H E hr
    exact ⟨t, h1, body_U h fun p n ds hp _ => h2 p n ds hp⟩
end
section
variable {X : Cx} {k j : Nat} {x : Str} {sp : Sp} {p pos : Pos} {e : Expr} {es : List Expr} {t : TA}
theorem pe_d (c : Cal X.prog X.w X.K X.mg X.base k x sp) (hr : Room j X.A) (hk : k ≤ j) (hg : Gl X x) (ha : PA X (e :: es) t)
    (hdb : (x == ("__debug__" : Str)) = false := by decide) (he : starEach (e :: es) X.env = (false, eval e X.env) :: starEach es X.env := by rfl) (hpl : (backTo pos (starEach es X.env)).any (·.1) = false := by rfl) :
    PE X (.Call (.Name x p) (e :: es) [] pos) (tCall sp [] L2.E0 t) := by
  obtain ⟨f, fd, ps, F, hm, kp, b⟩ := c.ex
  exact pe_call F (hr.mono hk) hg hm kp b .nil L2.pass0 ha hdb he hpl
theorem pe_d0 (c : Cal X.prog X.w X.K X.mg X.base k x sp) (hr : Room j X.A) (hk : k ≤ j) (hg : Gl X x) (hdb : (x == ("__debug__" : Str)) = false := by decide) :
    PE X (.Call (.Name x p) [] [] pos) (tCall sp [] L2.E0 tNil) := by
  obtain ⟨f, fd, ps, F, hm, kp, b⟩ := c.ex
  exact pe_call0 F (hr.mono hk) hg hm kp b .nil L2.pass0 hdb
end
/-- a name of the module that is never stored to again -/
theorem gk {X : Cx} {x : Str} {v : V} {pos : Pos} (h : ∃ u, X.mg x = some u ∧ RelV v u) (hg : Gl X x := by rfl) (hd : (x == ("__debug__" : Str)) = false := by decide) : PE X (.Name x pos) (tC v) := by
  obtain ⟨u, hm, r⟩ := h
  exact pe_glob hg hm r hd
/-! rules within a block: the written part by its own name -/
section
variable {X : Cx} {K : PySem.W.Frag}
theorem ixT (h : X.K = K := by rfl) : IxR X (rIxT K) := h ▸ ix_tup
theorem ixL (h : X.K = K := by rfl) : IxR X (rIxL K) := h ▸ ix_list
theorem inSq (h : X.K = K := by rfl) : OpR X (compareOp .In) (rIn K false) := h ▸ op_in_seq
theorem ninSq (h : X.K = K := by rfl) : OpR X (compareOp .NotIn) (rIn K true) := h ▸ op_notIn_seq
theorem lenC (h : X.K = K := by rfl) : CallR X (.builtin "len") (fun xs H Q => ∃ x n, xs = [x] ∧ LenV K x H n ∧ Q (.int n) H) := h ▸ call_len
theorem isiC (h : X.K = K := by rfl) : CallR X (.builtin "isinstance") (rIsi K) := h ▸ call_isi
theorem allC (hc : X.calm = true) (h : X.K = K := by rfl) : CallR X (.builtin "all") (rAll K) := h ▸ cr_all hc
theorem tupC (h : X.K = K := by rfl) : CallR X (.type "tuple") (rTupOf K) := h ▸ call_tuple_of
theorem lstC (h : X.K = K := by rfl) : CallR X (.type "list") (rLstOf K) := h ▸ call_list_of
theorem eqDC (hu : X.A.units + 64 < cLine) (h : X.K = K := by rfl) : OpR X (compareOp .Eq) (rEqD K) := h ▸ op_eqD hu
theorem neDC (hu : X.A.units + 64 < cLine) (h : X.K = K := by rfl) : OpR X (compareOp .NotEq) (rNeD K) := h ▸ op_neD hu
theorem catC (h : X.K = K := by rfl) : OpR X (binaryOp .Add) (rCatA K) := h ▸ op_catA
theorem slT (h : X.K = K := by rfl) : SlR X (rSlA K) := h ▸ sl_tupA
theorem slL (h : X.K = K := by rfl) : SlR X (rSlL K) := h ▸ sl_list
end
/-- f(k = v, ..), no value by its place -/
theorem pe_callK0 {X : Cx} {CX : CXT} {k : Nat} {f : Addr} {fd : FuncData} {ps ks : List Str} {sp : Sp} {E : XK} {x : Str} {p pos : Pos} {kws : List Keyword} {tk : TA} {g : List Value → List Value → List Value} {gV : List V → List V → List V}
    (F : FnOk X.prog X.w X.K X.mg X.base CX k f fd ps sp) (hr : Room k X.A) (hg : Gl X x) (hm : X.mg x = some (.ref f)) (hk : PySem.W.keepIn X.K (.ref f) = true) (hb : KBinds X.K fd ps ks g gV) (hx : Passes CX X E) (hkw : PK X kws tk)
    (hall : (backToKw pos (keywordEach kws X.env)).all (·.1.isSome) = true := by rfl) (hks : (backToKw pos (keywordEach kws X.env)).filterMap (·.1) = ks := by rfl) (hdb : (x == ("__debug__" : Str)) = false := by decide)
    (hpl : ((backTo pos (starEach [] X.env)).any (·.1) || (backToKw pos (keywordEach kws X.env)).any (·.1.isNone)) = false := by rfl) : PE X (.Call (.Name x p) [] kws pos) (tCallK sp gV E tNil tk) := by
  refine ⟨fun pins s σ H Q I h => wpAny_Call_Name_kw (ld_glob I hg hm (PySem.W.callWith_KW0 (h₀ := X.base) I.ok.mod.kin hk hall (thn (hkw.run pos pins s σ H _ I h) fun ws s2 z => ?_) hpl) hdb)⟩
  obtain ⟨zs, H2, I2, rz, q2⟩ := z
  refine ⟨I2.kIn, ?_⟩
  rw [hks]
  exact run_fnk F hr hb hx I2 .nil rz q2
section
variable {K : PySem.W.Frag} {te ta tb : TE} {tt : TT} {tr : TA} {t u : TS} {env : Env} {d a b c : PyData} {as : List PyData} {P : Post} {i : Nat}
theorem run_ifP {p : Bool} (h : EvPT K tt env p) (h1 : p = true → Run K t env P) (h2 : p = false → Run K u env P) : Run K (tIfS tt t u) env P := run_if (h.imp fun q e z => by
  obtain ⟨rfl, rfl⟩ := z
  cases q with
  | true => exact h1 rfl
  | false => exact h2 rfl)
theorem run_retP (h : EvP K te env d) (hp : P.rt d env) : Run K (tRet te) env P := run_ret (h.imp fun _ _ z => by
  obtain ⟨rfl, rfl⟩ := z
  exact hp)
theorem run_setP (h : EvP K te env d) (hp : P.nx (env.set i (some (.dat d)))) : Run K (tAsg te (gName i)) env P := run_set (h.imp fun _ _ z => by
  obtain ⟨rfl, rfl⟩ := z
  exact hp)
theorem ept_or1 {tu : TT} (ha : EvPT K tt env true) : EvPT K (tOr tt tu) env true := et_is (ept_or (q := false) ha fun h => by cases h) rfl
theorem ept_and0 {tu : TT} (ha : EvPT K tt env false) : EvPT K (tAnd tt tu) env false := et_is (ept_and (q := false) ha fun h => by cases h) rfl
theorem ep_or1 (ha : EvP K ta env (.bool true)) : EvP K (tOrV ta tb) env (.bool true) := ep_is (ep_orV (q := false) ha fun h => by cases h) rfl
theorem ep_and0 (ha : EvP K ta env (.bool false)) : EvP K (tAndV ta tb) env (.bool false) := ep_is (ep_andV (q := false) ha fun h => by cases h) rfl
theorem ep_callD {Pre : List PyData → Prop} {Ps : List PyData → PyData → Prop} {E0 : XK} (h : EvPA K tr env as) (hp : Pre as) (hk : ∀ d, Ps as d → d = c) : EvP K (tCall (spD K Pre Ps) [] E0 tr) env c :=
  ev_call (h.imp fun ds e z => by
    obtain ⟨rfl, rfl⟩ := z
    exact ⟨hp, fun d hd => ⟨hk d hd, rfl⟩⟩)
theorem ept_yes : EvPT K tYes env true := fun F I0 I σ H E Q q => q I H true env E (Ex.refl I) ⟨rfl, rfl⟩
/-- a comprehension whose parts change nothing -/
theorem ep_lc {wi : TI} {g : TG} {vs : List Nat} {ds : List PyData} (hw : EvW K wi env ds) (hv : wipeE env vs = env) (hn : ds.length ≤ 50000) (hg : OwnG g vs) (f : PyData → Bool) (v : PyData → PyData)
    (hs : ∀ d, d ∈ ds → Tgt K g d env fun e' => wipeE e' vs = env ∧ EvPT K tt e' (f d) ∧ (f d = true → EvP K te e' (v d))) : EvP K (tLc wi g tt te vs) env (.list ((ds.filter f).map v)) := by
  refine ev_lc hw hv hn (fun j as e => e = env ∧ as = ((ds.take j).filter f).map v) ⟨rfl, by simp⟩ (fun j d as e hd ⟨he, ha⟩ => ?_) hg (fun as e ⟨he, ha⟩ _ => ⟨by rw [ha, List.take_length], he⟩)
  subst he ha
  have hm : d ∈ ds := List.mem_of_getElem? hd
  intro F I0 I σ H x E hx Q q
  refine hs d hm F I0 I σ H x E hx Q fun σ' e' E' ⟨h1, h2, h3⟩ hl => q σ' e' E' ?_ hl
  refine h2.imp fun p e2 z => ?_
  obtain ⟨rfl, rfl⟩ := z
  have ht : ds.take (j + 1) = ds.take j ++ [d] := by rw [List.take_add_one, hd]; rfl
  cases hf : f d with
  | true =>
    rw [if_pos rfl]
    refine (h3 hf).imp fun c e3 z => ?_
    obtain ⟨rfl, rfl⟩ := z
    refine ⟨h1, ?_⟩
    rw [ht, List.filter_append, List.map_append, List.filter_cons, if_pos hf]
    rfl
  | false =>
    rw [if_neg Bool.false_ne_true]
    refine ⟨h1, ?_⟩
    rw [ht, List.filter_append, List.map_append, List.filter_cons, if_neg (by rw [hf]; decide)]
    simp
theorem ep_lcA {wi : TI} {g : TG} {vs : List Nat} {ds : List PyData} (hw : EvW K wi env ds) (hv : wipeE env vs = env) (hn : ds.length ≤ 50000) (hg : OwnG g vs) (v : PyData → PyData)
    (hs : ∀ d, d ∈ ds → Tgt K g d env fun e' => wipeE e' vs = env ∧ EvP K te e' (v d)) : EvP K (tLc wi g tYes te vs) env (.list (ds.map v)) := by
  have h := ep_lc (tt := tYes) hw hv hn hg (fun _ => true) v (te := te) fun d hd => fun F I0 I σ H x E hx Q q => hs d hd F I0 I σ H x E hx Q fun σ' e' E' ⟨h1, h2⟩ hl => q σ' e' E' ⟨h1, ept_yes, fun _ => h2⟩ hl
  rw [List.filter_eq_self.mpr fun _ _ => rfl] at h
  exact h
theorem dq_strs {I : Hp} : ∀ zs : List Str, DqAll K I (zs.map V.str) (zs.map PyData.str)
  | [] => .nil
  | z :: zs => .cons (.str z) (dq_strs zs)
theorem run_setIP {ti : TE} {p : Addr} {ds : List PyData} {j : Nat} (h : EvP K te env d) (h0 : env[i]? = some (some (.lst p ds))) (hi : EvP K ti env (.int (j : Int))) (hj : j < ds.length) (k : P.nx (env.set i (some (.lst p (ds.set j d))))) : Run K (tAsg te (gSub (tVar i) ti rSetL)) env P := run_setI (h.imp fun x e z => by
  obtain ⟨rfl, rfl⟩ := z
  exact ⟨p, ds, h0, hi.imp fun y e z => by
    obtain ⟨rfl, rfl⟩ := z
    exact ⟨j, rfl, hj, h0, k⟩⟩)
theorem run_appP {p : Addr} {ds : List PyData} (h : EvP K te env d) (h0 : env[i]? = some (some (.lst p ds))) (hl : ds.length < 100000) (k : P.nx (env.set i (some (.lst p (ds ++ [d]))))) : Run K (tDrop (tBM K "list" rAppend (tVar i) (tCons te tNil))) env P := run_app (h.imp fun x e z => by
  obtain ⟨rfl, rfl⟩ := z
  exact ⟨p, ds, h0, hl, k⟩) ⟨p, ds, h0⟩
theorem run_seqI {M : Env → Prop} (h : Run K t env { P with nx := M }) (k : ∀ e, M e → Run K u e P) : Run K (tSeq t u) env P := run_seq (h.imp k (fun _ _ z => z) (fun _ z => z) fun _ z => z)
end
end Lw

set_option Elab.async false
set_option linter.all false
set_option autoImplicit false
set_option maxRecDepth 100000
set_option maxHeartbeats 4000000
namespace Lw
open PySem PySem.Spec PyProof.Rows L2
section
variable {K : PySem.W.Frag} {te ta tb : TE} {tt : TT} {tr : TA} {t u : TS} {env : Env} {d a b c : PyData} {as : List PyData} {P : Post} {i : Nat}
/-- the dict that the items make, key by key -/
def dictOfD (key : PyData → Key) (val : PyData → V) (ds : List PyData) : List (Key × V) := ds.foldl (fun acc d => putK acc (key d) (val d)) []
theorem dictOfD_snoc (key : PyData → Key) (val : PyData → V) (ds : List PyData) (d : PyData) : dictOfD key val (ds ++ [d]) = putK (dictOfD key val ds) (key d) (val d) := by
  unfold dictOfD
  rw [List.foldl_append]
  rfl
theorem dictOfD_len (key : PyData → Key) (val : PyData → V) : ∀ (ds : List PyData), (dictOfD key val ds).length ≤ ds.length := by
  intro ds
  have h : ∀ (ds : List PyData) (acc : List (Key × V)), (ds.foldl (fun acc d => putK acc (key d) (val d)) acc).length ≤ acc.length + ds.length := by
    intro ds
    induction ds with
    | nil => intro acc; simp
    | cons d ds ih =>
      intro acc
      have h1 := ih (putK acc (key d) (val d))
      have h2 := length_putK acc (key d) (val d)
      rw [List.foldl_cons, List.length_cons]
      omega
  have := h ds []
  simpa [dictOfD] using this
/-- a dict comprehension whose parts change nothing -/
theorem ev_dc {wi : TI} {g : TG} {tk tv : TE} {vs : List Nat} {ds : List PyData} (hw : EvW K wi env ds) (hv : wipeE env vs = env) (hn : ds.length ≤ 50000) (hg : OwnG g vs) (key : PyData → Key) (kd vd : PyData → PyData)
    (hs : ∀ d, d ∈ ds → Tgt K g d env fun e' => wipeE e' vs = env ∧ EvP K tk e' (kd d) ∧ EvP K tv e' (vd d) ∧ toV (kd d) = kV (key d) ∧ flatD (kd d) = true ∧ flatD (vd d) = true) :
    ∀ (F I0 I : Hp) (σ : L2.St) (H : Hp), EnvI K F I0 I σ H env → ∀ Q : VK, (∀ (D : Addr) (I' H' : Hp), F D = none → I' D = none → EnvI K (upd F D (.dK (dictOfD key (fun d => toV (vd d)) ds))) I0 I' σ H' env → Ex I I' → Q (.ref D) H') → tDc wi g tYes tk tv vs σ H Q := fun F I0 I σ H E Q q =>
  hw F I0 I σ H E _ fun J I1 H1 G Y E1 x1 W hG hY => fun D hD => by
    have hF : F D = none := E1.fh.back hD
    have h0D : I0 D = none := (E1.oi.trans E1.ih).back hD
    let dk : Nat → List (Key × V) := fun j => dictOfD key (fun d => toV (vd d)) (ds.take j)
    have dk_succ : ∀ j d, ds[j]? = some d → dk (j + 1) = putK (dk j) (key d) (toV (vd d)) := fun j d h => by
      show dictOfD _ _ (ds.take (j + 1)) = _
      rw [List.take_add_one, h]
      exact dictOfD_snoc _ _ _ _
    have start_ : EnvI K (upd F D (.dK [])) I0 I1 (wipe σ vs) (upd H1 D (.dK [])) env := by
      have z := (E1.guard (o := .dK []) hD).wiped vs
      rw [hv] at z
      exact z
    let Pv : Nat → Hp → Prop := fun j H' => ∃ I', EnvI K (upd F D (.dK (dk j))) I0 I' (wipe σ vs) H' env ∧ Ex I1 I'
    refine ⟨fun j m H' => m = ds.length - j ∧ j ≤ ds.length ∧ Pv j H', ⟨ds.length, by simp, Nat.zero_le _, I1, start_, Ex.refl _⟩, ?_⟩
    rintro j m H' ⟨rfl, hj, I', E', x'⟩
    have hGH := hG H' (x'.trans E'.ih)
    by_cases hlt : j < ds.length
    · refine .inr ⟨W.goes j H' hlt hGH, Pv (j + 1), fun H2 p => ⟨ds.length - (j + 1), by omega, rfl, hlt, p⟩, fun x H3 hy => ?_⟩
      obtain ⟨d, hdj, hx⟩ := hY j H' x H3 I' hlt x' E'.ih (W.yields j H' x H3 hlt hGH hy)
      have go : ∀ I3, Ex I' I3 → EnvI K (upd F D (.dK (dk j))) I0 I3 (wipe σ vs) H3 env → Dq K I3 x d → g x (wipe σ vs) H3 fun σ2 H2 => wipe σ2 vs = wipe σ vs ∧ tYes σ2 H2 fun b H3 =>
          if b = true then tk σ2 H3 fun y H4 => tv σ2 H4 fun z H5 => ∃ kvs k, y = kV k ∧ H5 D = some (.dK kvs) ∧ kvs.length < sizeLine ∧ Pv (j + 1) (upd H5 D (.dK (putK kvs k z))) else Pv (j + 1) H3 := fun I3 x3 E3 hxd => by
        refine hg (wipe σ vs) x (wipe σ vs) H3 _ (wipe_idem σ vs) (hs d (List.mem_of_getElem? hdj) _ I0 I3 (wipe σ vs) H3 x E3 hxd _ fun σ2 e2 E2 r _ hw2 => ?_)
        obtain ⟨r1, r2, r3, r4, r5, r6⟩ := r
        dsimp only [tYes]
        rw [if_pos rfl]
        refine r2 _ I0 I3 σ2 H3 E2 _ fun y I4 H4 c e4 E4 x4 hy4 ⟨z1, z2⟩ => ?_
        subst z1 z2
        refine r3 _ I0 I4 σ2 H4 E4 _ fun z I5 H5 c e5 E5 x5 hz5 ⟨z3, z4⟩ => ?_
        subst z3 z4
        have ey : y = kV (key d) := ((dp_flat (dp_mono x5 hy4) r5).1).trans r4
        have ez : z = toV (vd d) := (dp_flat hz5 r6).1
        subst ey ez
        have hl : (dk j).length ≤ j := by
          have := dictOfD_len key (fun d => toV (vd d)) (ds.take j)
          rw [List.length_take] at this
          show (dictOfD _ _ (ds.take j)).length ≤ j
          omega
        refine ⟨dk j, key d, rfl, E5.fh D _ upd_same, Nat.lt_of_le_of_lt hl (Nat.lt_of_lt_of_le hlt (Nat.le_trans hn (by decide))), I5, ?_, x'.trans ((x3.trans x4).trans x5)⟩
        have z := (E5.guardPut (o' := .dK (dk (j + 1))) h0D).wiped vs
        rw [hw2, r1] at z
        rw [dk_succ j d hdj] at z ⊢
        exact z
      rcases hx with ⟨eH, hxd⟩ | ⟨T, o, hT, eH, hxd⟩
      · subst eH
        exact go I' (Ex.refl _) E' hxd
      · subst eH
        exact go _ (Ex.new (E'.ih.back hT)) (E'.newD hT) hxd
    · have e : j = ds.length := by omega
      subst e
      refine .inl ⟨W.stops H' hGH, ?_⟩
      have ed : dk ds.length = dictOfD key (fun d => toV (vd d)) ds := by
        show dictOfD _ _ (ds.take ds.length) = _
        rw [List.take_length]
      rw [ed] at E'
      exact q D I' H' hF (E'.fr D (by rw [upd_same]; exact fun z => nomatch z) h0D) E'.unwiped (x1.trans x')
/-- a def whose first argument is a dict that it leaves -/
def spK (K : PySem.W.Frag) (Pre : List (Key × V) → List PyData → Prop) (Ps : List (Key × V) → List PyData → PyData → Prop) : Sp := fun vs H Q _ => ∃ (p : Addr) (kvs : List (Key × V)) (xs : List V) (I : Hp) (ds : List PyData), vs = .ref p :: xs ∧ H p = some (.dK kvs) ∧ I p = none ∧ Ex I H ∧ DqAll K I xs ds ∧ Pre kvs ds ∧
  ∀ (v : V) (I' H' : Hp) (d : PyData), Ex I I' → Ex I' H' → Ex H H' → (∀ a, H a ≠ none → I a = none → I' a = none) → Dq K I' v d → Ps kvs ds d → Q v H'
theorem ep_callK {p : Addr} {kvs : List (Key × V)} {Pre : List (Key × V) → List PyData → Prop} {Ps : List (Key × V) → List PyData → PyData → Prop} {E0 : XK} (h0 : env[i]? = some (some (.dic p kvs))) (h : EvPA K tr env as) (hp : Pre kvs as) (hk : ∀ d, Ps kvs as d → d = c) : EvP K (tCall (spK K Pre Ps) [] E0 (tCons (tVar i) tr)) env c := fun F I0 I σ H E Q q => by
  obtain ⟨v, h1, rfl, hf, hi, hh⟩ := E.at_ i _ h0
  refine ⟨.ref p, h1, h F I0 I σ H E _ fun vs I1 H1 ds e E1 x1 hvs ⟨z1, z2⟩ => ?_⟩
  subst z1 z2
  obtain ⟨v', h1', ev, hf', hi', hh'⟩ := E1.at_ i _ h0
  rw [List.append_nil]
  exact ⟨p, kvs, vs, I1, _, rfl, hh', hi', E1.ih, hvs, hp, fun v I2 H2 d a1 a2 a3 a4 hd hps => q v I2 H2 d _ (E1.called a1 a2 a3 a4) (x1.trans a1) hd ⟨hk d hps, rfl⟩⟩
/-- the body of such a def -/
theorem body_K {Pre : List (Key × V) → List PyData → Prop} {Ps : List (Key × V) → List PyData → PyData → Prop} {N : List Str} {vs : List V} {H : Hp} {Q : VK} {E : XK} (h : spK K Pre Ps vs H Q E)
    (hb : ∀ p kvs ds, Pre kvs ds → vs.length = ds.length + 1 → Run K t (some (.dic p kvs) :: (ds.map (fun d => some (.dat d)) ++ List.replicate (N.length - (ds.length + 1)) none)) ⟨fun e => e[0]? = some (some (.dic p kvs)) ∧ Ps kvs ds .none, fun d e => e[0]? = some (some (.dic p kvs)) ∧ Ps kvs ds d, fun _ => False, fun _ => False⟩) :
    t { nx := fun _ H' => Q .non H', rt := Q } (start N vs) H := by
  obtain ⟨p, kvs, xs, I, ds, rfl, hpp, hIp, hI, hvs, hp, k⟩ := h
  have hl := dpA_len hvs
  have hst : start N (.ref p :: xs) = some (.ref p) :: (xs.map some ++ List.replicate (N.length - (xs.length + 1)) none) := rfl
  have tail : ∀ {m u}, (some (Val.dic p kvs) :: (ds.map (fun d => some (Val.dat d)) ++ List.replicate (N.length - (ds.length + 1)) none))[m + 1]? = some (some u) → ∃ d v, u = .dat d ∧ (start N (.ref p :: xs))[m + 1]? = some (some v) ∧ Dq K I v d := fun {m u} e => by
    have e : (ds.map (fun d => some (Val.dat d)) ++ List.replicate (N.length - (ds.length + 1)) none)[m]? = some (some u) := by simpa using e
    by_cases z : m < ds.length
    · rw [List.getElem?_append_left (by simpa using z), List.getElem?_map, List.getElem?_eq_getElem z] at e
      have e' : u = .dat ds[m] := by simpa using e.symm
      subst e'
      obtain ⟨v, hv, hd⟩ := dpA_get hvs (List.getElem?_eq_getElem z)
      refine ⟨_, v, rfl, ?_, hd⟩
      rw [hst, List.getElem?_cons_succ, List.getElem?_append_left (by simpa [hl] using z), List.getElem?_map, hv]
      rfl
    · rw [List.getElem?_append_right (by simpa using z), List.getElem?_replicate] at e
      split at e <;> cases e
  have E1 : EnvI K (lessH H p) I I (start N (.ref p :: xs)) H (some (.dic p kvs) :: (ds.map (fun d => some (.dat d)) ++ List.replicate (N.length - (ds.length + 1)) none)) := by
    refine ⟨fun a o h => (lessH_some h).2, Ex.refl I, hI, fun _ _ h => h, by rw [hst]; simp [hl], fun i x e => ?_, fun i j x y hij hi hj cx cy => ?_⟩
    · cases i with
      | zero =>
        have e' : x = .dic p kvs := by simpa using e.symm
        subst e'
        exact ⟨.ref p, rfl, rfl, lessH_same, hIp, hpp⟩
      | succ i =>
        obtain ⟨d, v, rfl, h1, h2⟩ := tail e
        exact ⟨v, h1, h2⟩
    · exfalso
      cases i with
      | succ i =>
        obtain ⟨d, v, rfl, _, _⟩ := tail hi
        cases cx
      | zero =>
        cases j with
        | zero => exact hij rfl
        | succ j =>
          obtain ⟨d, v, rfl, _, _⟩ := tail hj
          cases cy
  have out : ∀ {v : V} {I' : Hp} {σ' : L2.St} {H' : Hp} {d : PyData} {e : Env}, EnvI K (lessH H p) I I' σ' H' e → e[0]? = some (some (.dic p kvs)) → Dq K I' v d → Ps kvs ds d → Q v H' := fun {v I' σ' H' d e} E' h0 hd hps => by
    obtain ⟨w, hw, ew, hF, hI', hH'⟩ := E'.at_ 0 _ h0
    refine k v I' H' d E'.oi E'.ih (fun a o ha => ?_) (fun a h1 h2 => ?_) hd hps
    · by_cases z : a = p
      · subst z
        rw [hpp] at ha
        cases ha
        exact hH'
      · exact E'.fh a o (by rw [lessH_ne z]; exact ha)
    · by_cases z : a = p
      · subst z
        exact hI'
      · exact E'.fr a (by rw [lessH_ne z]; exact h1) h2
  exact hb p kvs ds hp (by rw [List.length_cons, hl]) _ I I _ H _ E1 ⟨fun I' σ' H' e E' ⟨q1, q2⟩ => out E' q1 .non q2, fun v I' σ' H' d e E' hd ⟨q1, q2⟩ => out E' q1 hd q2, fun _ _ _ _ _ p => p.elim, fun _ _ _ _ _ p => p.elim⟩
/-- a def that makes a dict of data -/
def spM (K : PySem.W.Frag) (Pre : List PyData → Prop) (Ps : List PyData → List (Key × V) → Prop) : Sp := fun vs H Q _ => ∃ (I : Hp) (ds : List PyData), Ex I H ∧ DqAll K I vs ds ∧ Pre ds ∧
  ∀ (D : Addr) (H' I' : Hp) (kvs : List (Key × V)), H D = none → I' D = none → Ex I I' → Ex I' H' → Ex H H' → (∀ a, H a ≠ none → I a = none → I' a = none) → H' D = some (.dK kvs) → Ps ds kvs → Q (.ref D) H'
/-- x = f(..), a new dict of one's own -/
theorem run_setM {Pre : List PyData → Prop} {Ps : List PyData → List (Key × V) → Prop} {E0 : XK} (h : EvPA K tr env as) (hp : Pre as) (k : ∀ p kvs, Ps as kvs → P.nx (env.set i (some (.dic p kvs)))) : Run K (tAsg (tCall (spM K Pre Ps) [] E0 tr) (gName i)) env P := fun F I0 I σ H D E A =>
  h F I0 I σ H E _ fun vs I1 H1 ds e E1 x1 hvs ⟨z1, z2⟩ => by
    subst z1
    obtain rfl : env = e := z2.symm
    rw [List.append_nil]
    refine ⟨I1, _, E1.ih, hvs, hp, fun D H2 I2 kvs hD hI2 a1 a2 a3 a4 hH2 hps => ?_⟩
    have E2 := E1.called a1 a2 a3 a4
    have hF : F D = none := E1.fh.back hD
    exact A.nx I2 _ H2 _ (E1.setNew (x := .dic D kvs) E2 i hD ⟨rfl, hF, hI2, hH2⟩) (k D kvs hps)
/-- a def that makes a list of data -/
def spF (K : PySem.W.Frag) (Pre : List PyData → Prop) (Ps : List PyData → List PyData → Prop) : Sp := fun vs H Q _ => ∃ (I : Hp) (ds : List PyData), Ex I H ∧ DqAll K I vs ds ∧ Pre ds ∧
  ∀ (D : Addr) (H' I' : Hp) (xs : List V) (es : List PyData), H D = none → I' D = none → Ex I I' → Ex I' H' → Ex H H' → (∀ a, H a ≠ none → I a = none → I' a = none) → H' D = some (.lst xs) → DqAll K I' xs es → Ps ds es → Q (.ref D) H'
theorem run_setF {Pre : List PyData → Prop} {Ps : List PyData → List PyData → Prop} {E0 : XK} (h : EvPA K tr env as) (hp : Pre as) (k : ∀ p es, Ps as es → P.nx (env.set i (some (.lst p es)))) : Run K (tAsg (tCall (spF K Pre Ps) [] E0 tr) (gName i)) env P := fun F I0 I σ H D E A =>
  h F I0 I σ H E _ fun vs I1 H1 ds e E1 x1 hvs ⟨z1, z2⟩ => by
    subst z1
    obtain rfl : env = e := z2.symm
    rw [List.append_nil]
    refine ⟨I1, _, E1.ih, hvs, hp, fun D H2 I2 xs es hD hI2 a1 a2 a3 a4 hH2 hds hps => ?_⟩
    exact A.nx I2 _ H2 _ (E1.setNew (x := .lst D es) (E1.called a1 a2 a3 a4) i hD ⟨rfl, E1.fh.back hD, hI2, xs, hH2, hds⟩) (k D es hps)
/-- a def that makes a purse -/
def spPu (K : PySem.W.Frag) (n : Nat) (Pre : List PyData → Prop) : Sp := fun vs H Q _ => ∃ (I : Hp) (ds : List PyData), Ex I H ∧ DqAll K I vs ds ∧ Pre ds ∧
  ∀ (D : Addr) (H' I' : Hp) (xs : List V), H D = none → I' D = none → Ex I I' → Ex I' H' → Ex H H' → (∀ a, H a ≠ none → I a = none → I' a = none) → H' D = some (.lst xs) → PurseOk xs n → Q (.ref D) H'
theorem run_setPu {n : Nat} {Pre : List PyData → Prop} {E0 : XK} (h : EvA K tr env fun as e => e = env ∧ Pre as) (k : ∀ p, P.nx (env.set i (some (.prs p n)))) : Run K (tAsg (tCall (spPu K n Pre) [] E0 tr) (gName i)) env P := fun F I0 I σ H D E A =>
  h F I0 I σ H E _ fun vs I1 H1 ds e E1 x1 hvs ⟨z2, hp⟩ => by
    obtain rfl : env = e := z2.symm
    rw [List.append_nil]
    refine ⟨I1, _, E1.ih, hvs, hp, fun D H2 I2 xs hD hI2 a1 a2 a3 a4 hH2 hpu => ?_⟩
    exact A.nx I2 _ H2 _ (E1.setNew (x := .prs D n) (E1.called a1 a2 a3 a4) i hD ⟨rfl, E1.fh.back hD, hI2, xs, hH2, hpu⟩) (k D)
/-- xs.pop(e), xs one's own -/
theorem ev_popAt {p : Addr} {ds : List PyData} {R : PyData → Env → Prop} (h0 : env[i]? = some (some (.lst p ds))) (h : EvE K te env fun d e => ∃ (j : Nat) (c : PyData), d = .int (j : Int) ∧ j < 100000 ∧ ds[j]? = some c ∧ e[i]? = some (some (.lst p ds)) ∧ R c (e.set i (some (.lst p (ds.eraseIdx j))))) :
    EvE K (tBM K "list" rPopAt (tVar i) (tCons te tNil)) env R := fun F I0 I σ H E Q q => by
  obtain ⟨v, h1, rfl, hf, hi, xs, hh, hd⟩ := E.at_ i _ h0
  refine ⟨.ref p, h1, .inl ⟨rfl, xs, .inl (.inl hh)⟩, h F I0 I σ H E _ fun y I1 H1 d e E1 x1 hy ⟨j, c, ed, hj, hc, he, hr⟩ => ?_⟩
  subst ed
  cases dp_int hy
  obtain ⟨v', h1', ev, hf', hi', xs', hh', hd'⟩ := E1.at_ i _ he
  obtain ⟨w, hw, hwd⟩ := dpA_get hd' hc
  have hl := dpA_len hd'
  have hjl : j < xs'.length := (List.getElem?_eq_some_iff.mp hw).1
  refine ⟨p, xs', (j : Int), j, w, rfl, rfl, hh', by omega, by omega, ?_, hw, ?_⟩
  · exact (ixN_seq (show ixN xs'.length (j : Int) = some j by
      unfold ixN
      rw [if_pos (by omega), if_pos (by omega)]
      simp)).1
  · exact q w I1 _ c _ (E1.putC (y := .lst p (ds.eraseIdx j)) he rfl h1 hi' hf' ⟨rfl, hf', hi', _, upd_same, dpA_erase j hd'⟩) x1 hwd hr
theorem ep_lenSeq {ns : List Int} (h : env[i]? = some (some (.seq ns))) : EvP K (tCB (fun xs H Q => ∃ x n, xs = [x] ∧ LenV K x H n ∧ Q (.int n) H) (tCons (tVar i) tNil)) env (.int ns.length) := fun F I0 I σ H E Q q => by
  obtain ⟨v, h1, a, rfl, hs⟩ := E.at_ i _ h
  refine ⟨.ref a, h1, .ref a, (ns.map V.int).length, rfl, .inl ⟨_, E.ih.l hs, rfl⟩, ?_⟩
  rw [List.length_map]
  exact q _ I H _ env E (Ex.refl I) (.int _) ⟨rfl, rfl⟩
end
section
variable {P : Program} {w : World} {K : PySem.W.Frag} {mg : Str → Option Value} {base : Heap}
theorem DefAt.calK {x : Str} {st : Stmt} {N ps : List Str} {k : Nat} {Pre : List (Key × V) → List PyData → Prop} {Ps : List (Key × V) → List PyData → PyData → Prop} (D : DefAt K mg x st ps) (S : FnScope N ps (defScope st)) (len : ∀ kvs ds, Pre kvs ds → ds.length + 1 = ps.length)
    (hbody : ∀ (f : Addr) (cdv : Value) (A : Around) (outer : List PySem.Env) (s : Shared) (H : Hp) (E : XK), Room k (A.deeper (envOfC x (defScope st) s.heap.objs.size f cdv)) →
      ∃ t, PSs (cxOf L2.CX0 P w K mg base N x (defScope st) f cdv A outer s H E).nox (defBody st) t ∧
        ∀ p kvs ds, Pre kvs ds → Run K t (some (.dic p kvs) :: (ds.map (fun d => some (.dat d)) ++ List.replicate (N.length - (ds.length + 1)) none)) ⟨fun e => e[0]? = some (some (.dic p kvs)) ∧ Ps kvs ds .none, fun d e => e[0]? = some (some (.dic p kvs)) ∧ Ps kvs ds d, fun _ => False, fun _ => False⟩) : Cal P w K mg base (k + 1) x (spK K Pre Ps) :=
  D.cal S (fun vs H Q E h => by
    obtain ⟨p, kvs, xs, I, ds, rfl, _, _, _, hv, hp, _⟩ := h
    rw [List.length_cons, dpA_len hv]
    exact len kvs ds hp) fun f cdv A outer s H vs Q E hr h => by
    obtain ⟨t, h1, h2⟩ := hbody f cdv A outer s H E hr
    exact ⟨t, h1, body_K h fun p kvs ds hp _ => h2 p kvs ds hp⟩
/-- a def's promise, with the def itself -/
structure CalF (P : Program) (w : World) (K : PySem.W.Frag) (mg : Str → Option Value) (base : Heap) (k : Nat) (x : Str) (st : Stmt) (ps : List Str) (sp : Sp) : Prop where
  ex : ∃ (f : Addr) (fd : FuncData), L2.Fun K x x st f fd ∧ FnOk P w K mg base L2.CX0 k f fd ps sp ∧ mg x = some (.ref f) ∧ Binds K fd ps []
theorem CalF.cal {x : Str} {st : Stmt} {ps : List Str} {k : Nat} {sp : Sp} (c : CalF P w K mg base k x st ps sp) : Cal P w K mg base k x sp := by
  obtain ⟨f, fd, F, ok, hm, hb⟩ := c.ex
  exact ⟨f, fd, ps, ok, hm, F.kp, hb⟩
theorem DefAt.calDF {x : Str} {st : Stmt} {N ps : List Str} {k : Nat} {Pre : List PyData → Prop} {Ps : List PyData → PyData → Prop} (D : DefAt K mg x st ps) (S : FnScope N ps (defScope st)) (len : ∀ ds, Pre ds → ds.length = ps.length)
    (hbody : ∀ (f : Addr) (cdv : Value) (A : Around) (outer : List PySem.Env) (s : Shared) (H : Hp) (E : XK), Room k (A.deeper (envOfC x (defScope st) s.heap.objs.size f cdv)) →
      ∃ t, PSs (cxOf L2.CX0 P w K mg base N x (defScope st) f cdv A outer s H E).nox (defBody st) t ∧
        ∀ ds, Pre ds → Run K t (ds.map (fun d => some (.dat d)) ++ List.replicate (N.length - ds.length) none) ⟨fun _ => Ps ds .none, fun d _ => Ps ds d, fun _ => False, fun _ => False⟩) : CalF P w K mg base (k + 1) x st ps (spD K Pre Ps) := by
  obtain ⟨f, fd, F, hm, hb⟩ := D.ex
  exact ⟨f, fd, F, F.ok S (fun vs H Q E h => by
    obtain ⟨I, ds, _, hv, hp, _⟩ := h
    rw [dpA_len hv]
    exact len ds hp) (fun cdv A outer s H vs Q E hr h => by
    obtain ⟨t, h1, h2⟩ := hbody f cdv A outer s H E hr
    exact ⟨t, h1, body_D h fun ds hp _ => h2 ds hp⟩), hm, hb⟩
end
end Lw

set_option Elab.async false
set_option linter.all false
set_option autoImplicit false
set_option maxRecDepth 100000
set_option maxHeartbeats 4000000
/-! Draws within arguments, and within what is walked. -/
namespace Lw
open PySem PySem.Spec PyProof.Rows L2
section
variable {K : PySem.W.Frag} {te ta tb : TE} {tt : TT} {tr : TA} {t u : TS} {env : Env} {d a b c : PyData} {as : List PyData} {P : Post} {i : Nat}
/-- a draw whose arguments may draw themselves -/
theorem ev_callU2 {cost : Nat} {Pre : List PyData → Prop} {Ps : List PyData → PyData → Prop} {E0 : XK} {R : PyData → Env → Prop} {p : Addr} {n0 : Nat} (h0 : env[i]? = some (some (.prs p n0)))
    (h : EvA K tr env fun ds e => Pre ds ∧ ∃ n, e[i]? = some (some (.prs p (n + cost))) ∧ ∀ d, Ps ds d → R d (e.set i (some (.prs p n)))) : EvE K (tCall (spU K cost Pre Ps) [] E0 (tCons (tVar i) tr)) env R := fun F I0 I σ H E Q q => by
  obtain ⟨v, h1, rfl, hf, hi, ws, hh, hpu⟩ := E.at_ i _ h0
  refine ⟨.ref p, h1, h F I0 I σ H E _ fun vs I1 H1 ds e E1 x1 hvs ⟨hp, n, he, hk⟩ => ?_⟩
  obtain ⟨v', h1', ev, hf', hi', ws', hh', hpu'⟩ := E1.at_ i _ he
  subst ev
  rw [List.append_nil]
  exact ⟨p, n, vs, I1, ds, rfl, ⟨ws', hh', hpu'⟩, hi', E1.ih, hvs, hp, fun v I2 H2 d a1 a2 a3 a4 ⟨us, a5, a6⟩ hd hps =>
    q v I2 H2 d _ (E1.calledC (y := .prs p n) he rfl h1' hf' a1 a2 a3 a4 ⟨rfl, hf', a4 p (by rw [hh']; exact fun z => nomatch z) hi', us, a5, a6⟩) (x1.trans a1) hd (hk d hps)⟩
/-- the same, the arguments' readings given one by one -/
theorem ev_callP {cost n : Nat} {Pre : List PyData → Prop} {Ps : List PyData → PyData → Prop} {E0 : XK} {R : PyData → Env → Prop} {p : Addr} (h0 : env[i]? = some (some (.prs p (n + cost))))
    (h : EvPA K tr env as) (hp : Pre as) (hk : ∀ d, Ps as d → R d (env.set i (some (.prs p n)))) : EvE K (tCall (spU K cost Pre Ps) [] E0 (tCons (tVar i) tr)) env R :=
  ev_callU2 h0 (h.imp fun ds e z => by
    obtain ⟨rfl, rfl⟩ := z
    exact ⟨hp, n, h0, hk⟩)
/-- what is walked, by what the looking does -/
def EvWE (K : PySem.W.Frag) (wi : TI) (env : Env) (P : List PyData → Env → Prop) : Prop :=
  ∀ (F I0 I : Hp) (σ : L2.St) (H : Hp), EnvI K F I0 I σ H env → ∀ R : It → Hp → Prop,
    (∀ (J : It) (I' H' : Hp) (G : Hp → Prop) (Y : Nat → Hp → V → Hp → Prop) (ds : List PyData) (env' : Env), P ds env' → EnvI K F I0 I' σ H' env' → Ex I I' → Walk J ds.length G Y → (∀ H2, Ex I' H2 → G H2) →
      (∀ (j : Nat) (H2 : Hp) (x : V) (H3 I2 : Hp), j < ds.length → Ex I' I2 → Ex I2 H2 → Y j H2 x H3 → ∃ d, ds[j]? = some d ∧ ((H3 = H2 ∧ Dq K I2 x d) ∨ ∃ T o, H2 T = none ∧ H3 = upd H2 T o ∧ Dq K (upd I2 T o) x d)) → R J H') → wi σ H R
theorem EvWE.imp {wi : TI} {P P' : List PyData → Env → Prop} (h : EvWE K wi env P) (k : ∀ d e, P d e → P' d e) : EvWE K wi env P' :=
  fun F I0 I σ H E R q => h F I0 I σ H E R fun J I' H' G Y ds e p => q J I' H' G Y ds e (k ds e p)
theorem ewe_list {P : List PyData → Env → Prop} (h : EvE K te env fun d e => ∃ ds, d = .list ds ∧ P ds e) : EvWE K (iList K te) env P := fun F I0 I σ H E R q =>
  h F I0 I σ H E _ fun v I1 H1 d e E1 x1 hd ⟨ds, ed, hp⟩ => by
    subst ed
    obtain ⟨a, xs, rfl, hs, hds⟩ := dp_lst hd
    have hl := dpA_len hds
    refine ⟨a, rfl, ⟨xs, E1.ih.l (.inl (.inl hs))⟩, q _ I1 H1 _ _ ds e hp E1 x1 (hl ▸ walk_list (K := K) (a := a) (xs := xs)) (fun H2 x => x.l (.inl (.inl hs))) fun j H2 x H3 I2 hj x2 x3 y => ?_⟩
    obtain ⟨eH, ex⟩ := y
    obtain ⟨w, hw, hwd⟩ := dpA_get hds (List.getElem?_eq_getElem hj)
    rw [hw] at ex
    cases ex
    exact ⟨_, List.getElem?_eq_getElem hj, .inl ⟨eH, dp_mono x2 hwd⟩⟩
theorem ewe_rng1 {P : List PyData → Env → Prop} (h : EvA K tr env fun as e => ∃ n : Int, as = [.int n] ∧ (n ≤ 100000 ∧ -100000 ≤ n) ∧ P (intsD 0 n.toNat) e) : EvWE K (iRng1 tr) env P := fun F I0 I σ H E R q =>
  h F I0 I σ H E _ fun vs I1 H1 ds e E1 x1 hd ⟨n, ed, hn, hp⟩ => by
    subst ed
    cases hd with
    | cons h1 h2 =>
      cases h2
      cases dp_int h1
      refine ⟨n, rfl, by omega, by omega, q _ I1 H1 _ _ _ e hp E1 x1 (by rw [intsD_len]; exact walk_range (lo := 0) (n := n.toNat)) (fun H2 x => trivial) fun j H2 x H3 I2 hj x2 x3 y => ?_⟩
      obtain ⟨eH, ex⟩ := y
      subst ex
      rw [intsD_len] at hj
      exact ⟨_, intsD_get hj, .inl ⟨eH, .int _⟩⟩
/-- a for over it -/
theorem run_forE {wi : TI} {g : TG} (hw : EvWE K wi env fun ds e0 => ∃ In : Nat → Env → Prop, In 0 e0 ∧ (∀ (j : Nat) (d : PyData) (e : Env), ds[j]? = some d → In j e → Tgt K g d e fun e' => Run K t e' ⟨In (j + 1), P.rt, P.nx, In (j + 1)⟩) ∧ ∀ e, In ds.length e → P.nx e) : Run K (tFor wi g t) env P := fun F I0 I σ H D E A =>
  hw F I0 I σ H E _ fun J I1 H1 G Y ds e0 ⟨In, h0, hs, hd⟩ E1 x1 W hG hY => by
    refine for_it W (fun j σ' H' => ∃ I' e, EnvI K F I0 I' σ' H' e ∧ Ex I1 I' ∧ In j e) ⟨I1, e0, E1, Ex.refl _, h0⟩ (fun j σ' H' _ ⟨I', e, E', x', _⟩ => hG H' (x'.trans E'.ih)) (fun j x σ' H' H3 hj hP hy => ?_) (fun σ' H' ⟨I', e, E', _, p⟩ => A.nx I' σ' H' e E' (hd e p))
    obtain ⟨I', e, E', x', p⟩ := hP
    obtain ⟨d, hdj, hx⟩ := hY j H' x H3 I' hj x' E'.ih hy
    have go : ∀ I3, Ex I' I3 → EnvI K F I0 I3 σ' H3 e → Dq K I3 x d → g x σ' H3 fun σ2 H2 => t { D with nx := fun σ' H' => ∃ I' e, EnvI K F I0 I' σ' H' e ∧ Ex I1 I' ∧ In (j + 1) e, ct := fun σ' H' => ∃ I' e, EnvI K F I0 I' σ' H' e ∧ Ex I1 I' ∧ In (j + 1) e, bk := D.nx } σ2 H2 := fun I3 x3 E3 hxd =>
      hs j d e hdj p F I0 I3 σ' H3 x E3 hxd _ fun σ2 e2 E2 r _ => by
        have E2' : EnvI K F I3 I3 σ2 H3 e2 := ⟨E2.fh, Ex.refl _, E2.ih, fun a h1 h2 => h2, E2.len, E2.at_, E2.ne⟩
        have back : ∀ {I4 : Hp} {σ4 : L2.St} {H4 : Hp} {e4 : Env}, EnvI K F I3 I4 σ4 H4 e4 → EnvI K F I0 I4 σ4 H4 e4 := fun {I4 σ4 H4 e4} E4 => ⟨E4.fh, E2.oi.trans E4.oi, E4.ih, fun a h1 h2 => E4.fr a h1 (E2.fr a h1 h2), E4.len, E4.at_, E4.ne⟩
        exact r F I3 I3 σ2 H3 _ E2' ⟨fun I4 σ4 H4 e4 E4 q => ⟨I4, e4, back E4, (x'.trans x3).trans E4.oi, q⟩, fun v I4 σ4 H4 d4 e4 E4 hd4 q => A.rt v I4 σ4 H4 d4 e4 (back E4) hd4 q, fun I4 σ4 H4 e4 E4 q => A.nx I4 σ4 H4 e4 (back E4) q, fun I4 σ4 H4 e4 E4 q => ⟨I4, e4, back E4, (x'.trans x3).trans E4.oi, q⟩⟩
    rcases hx with ⟨eH, hxd⟩ | ⟨T, o, hT, eH, hxd⟩
    · subst eH
      exact go I' (Ex.refl _) E' hxd
    · subst eH
      exact go _ (Ex.new (E'.ih.back hT)) (E'.newD hT) hxd
end
end Lw

set_option Elab.async false
set_option linter.all false
set_option autoImplicit false
set_option maxRecDepth 100000
set_option maxHeartbeats 8000000
/-! Texts written out of data: f-strings, join; what is never come to. -/
namespace Lw
open PySem PySem.Spec PyProof.Rows L2
section
variable {K : PySem.W.Frag} {te ta tb : TE} {tr : TA} {env : Env} {d : PyData} {X : Cx}
theorem ep_fmtS {z : Str} (h : EvP K te env (.str z)) (hl : z.length ≤ 100000) : EvP K (tFmt te) env (.str z) := fun F I0 I σ H E Q q =>
  h F I0 I σ H E _ fun v I1 H1 d e E1 x1 hd ⟨e1, e2⟩ => by
    subst e1 e2
    exact .inl ⟨z, dp_str hd, Nat.le_trans hl (by decide), q _ I1 H1 _ _ E1 x1 (.str z) ⟨rfl, rfl⟩⟩
theorem ep_fmtI {i : Int} (h : EvP K te env (.int i)) (hi : i.natAbs < 10 ^ 12) : EvP K (tFmt te) env (.str (toString i)) := fun F I0 I σ H E Q q =>
  h F I0 I σ H E _ fun v I1 H1 d e E1 x1 hd ⟨e1, e2⟩ => by
    subst e1 e2
    refine .inr ⟨i, dp_int hd, ?_, q _ I1 H1 _ _ E1 x1 (.str _) ⟨rfl, rfl⟩⟩
    by_cases h0 : i.natAbs = 0
    · rw [h0]; decide
    · exact (Nat.log2_lt h0).mpr (Nat.lt_of_lt_of_le hi (by decide +kernel))
/-- the pieces of an f-string -/
inductive Ps (K : PySem.W.Frag) (env : Env) : List TE → List Str → Prop
  | nil : Ps K env [] []
  | cons {t : TE} {z : Str} {ts : List TE} {zs : List Str} : EvP K t env (.str z) → Ps K env ts zs → Ps K env (t :: ts) (z :: zs)
theorem append_len (a b : Str) : (a ++ b).length = a.length + b.length := by
  show (a.cps ++ b.cps).size = a.cps.size + b.cps.size
  exact Array.size_append
theorem ps_run : ∀ {ts : List TE} {zs : List Str}, Ps K env ts zs → ∀ (acc : Str), acc.length + (zs.map (·.length)).sum ≤ 100000 → EvP K (fun σ H Q => tJs ts acc σ H fun out H1 => Q (.str out) H1) env (.str (zs.foldl (· ++ ·) acc))
  | _, _, .nil, acc, _ => fun F I0 I σ H E Q q => q _ I H _ _ E (Ex.refl I) (.str _) ⟨rfl, rfl⟩
  | _, _, .cons (t := t) (z := z) (ts := ts) (zs := zs) h r, acc, hl => fun F I0 I σ H E Q q =>
    h F I0 I σ H E _ fun v I1 H1 d e E1 x1 hd ⟨e1, e2⟩ => by
      subst e1
      obtain rfl : env = e := e2.symm
      rw [List.map_cons, List.sum_cons] at hl
      have hal := append_len acc z
      refine ⟨z, dp_str hd, Nat.le_trans (by rw [hal]; omega) (by decide : 100000 ≤ sizeLine), ?_⟩
      exact ps_run r (acc ++ z) (by rw [hal]; omega) F I0 I1 σ H1 E1 Q fun v I2 H2 d e E2 x2 => q v I2 H2 d e E2 (x1.trans x2)
theorem ep_js {ts : List TE} {zs : List Str} (h : Ps K env ts zs) (hl : (zs.map (·.length)).sum ≤ 100000) : EvP K (fun σ H Q => tJs ts Str.empty σ H fun out H1 => Q (.str out) H1) env (.str (zs.foldl (· ++ ·) Str.empty)) := ps_run h Str.empty (by show 0 + _ ≤ _; omega)
def rJoin (K : PySem.W.Frag) : V → List V → Hp → VK → Prop := fun x xs H Q => ∃ a p, ∃ ys : List Str, x = .str a ∧ xs = [.ref p] ∧ (SqL K H p (ys.map V.str) ∨ SqT K H p (ys.map V.str)) ∧ (ys.map (·.length)).sum + ys.length * a.length ≤ 16777216 ∧ Q (.str (Txt.join a ys)) H
theorem dq_strs_of {I : Hp} : ∀ {vs : List V} {zs : List Str}, DqAll K I vs (zs.map PyData.str) → vs = zs.map V.str
  | _, [], h => by cases h; rfl
  | _, z :: zs, h => by
    cases h with
    | cons h1 h2 =>
      rw [dp_str h1, dq_strs_of h2]
      rfl
theorem rm_join {a : Str} {zs : List Str} (hl : (zs.map (·.length)).sum + zs.length * a.length ≤ 100000) : RM K (rJoin K) (.str a) [.list (zs.map .str)] (.str (Txt.join a zs)) := fun I H x xs e hx hxs Q q _ => by
  cases dp_str hx
  cases hxs with
  | cons h1 h2 =>
    cases h2
    obtain ⟨p, ys, rfl, hp, hd⟩ := dp_lst h1
    have := dq_strs_of hd
    subst this
    exact ⟨a, p, zs, rfl, rfl, .inl (.inl (.inl (e _ _ hp))), Nat.le_trans hl (by decide), q _ (.str _)⟩
/-- statements that are never come to -/
def tNo : TS := fun _ _ _ => False
theorem pss_no {sts : List Stmt} : PSs X sts tNo := ⟨fun _ _ _ _ _ _ h => h.elim⟩
theorem run_ifN {tt : TT} {u : TS} {P : Post} (h : EvPT K tt env false) (h2 : Run K u env P) : Run K (tIfS tt tNo u) env P := run_ifP h (fun z => by cases z) fun _ => h2
end
end Lw

set_option Elab.async false
set_option linter.all false
set_option autoImplicit false
set_option maxRecDepth 100000
set_option maxHeartbeats 8000000
/-! while, slices of texts, += of a number, methods of texts with a text. -/
namespace Lw
open PySem PySem.Spec PyProof.Rows L2
section
variable {K : PySem.W.Frag} {te ta tb : TE} {tr : TA} {tt : TT} {t u : TS} {env : Env} {d a b c : PyData} {X : Cx} {P : Post}
theorem run_while (In : Nat → Env → Prop) (h0 : ∃ m, In m env) (hs : ∀ m e, In m e → EvT K tt e fun b e2 => if b = true then Run K t e2 ⟨fun e' => ∃ m', m' < m ∧ In m' e', P.rt, P.nx, fun e' => ∃ m', m' < m ∧ In m' e'⟩ else P.nx e2) : Run K (tWhile tt t) env P := fun F I0 I σ H D E A => by
  obtain ⟨m0, h0⟩ := h0
  refine ⟨fun m σ' H' => ∃ I' e, EnvI K F I0 I' σ' H' e ∧ In m e, ⟨m0, I, env, E, h0⟩, fun m σ' H' ⟨I', e, E', p⟩ => hs m e p F I0 I' σ' H' E' _ fun I2 H2 q e2 E2 x2 z => ?_⟩
  cases q with
  | true =>
    rw [if_pos rfl] at z ⊢
    refine ⟨fun σ3 H3 => ∃ m', m' < m ∧ ∃ I3 e3, EnvI K F I0 I3 σ3 H3 e3 ∧ In m' e3, fun σ3 H3 ⟨m', h1, h2⟩ => ⟨m', h1, h2⟩, ?_⟩
    exact z F I0 I2 σ' H2 _ E2 ⟨fun I3 σ3 H3 e3 E3 ⟨m', h1, h2⟩ => ⟨m', h1, I3, e3, E3, h2⟩, fun v I3 σ3 H3 d3 e3 E3 hd h => A.rt v I3 σ3 H3 d3 e3 E3 hd h, fun I3 σ3 H3 e3 E3 h => A.nx I3 σ3 H3 e3 E3 h, fun I3 σ3 H3 e3 E3 ⟨m', h1, h2⟩ => ⟨m', h1, I3, e3, E3, h2⟩⟩
  | false =>
    rw [if_neg Bool.false_ne_true] at z ⊢
    exact A.nx I2 σ' H2 e2 E2 z
theorem rsl_str {z : Str} {lo hi : Option Int} (hl : z.length ≤ 100000) : RSl K rSlS (.str z) lo hi (.str (cutS z lo hi)) := fun I H x e hx Q q _ => by
  cases dp_str hx
  exact ⟨z, rfl, Nat.le_trans hl (by decide), q _ (.str _)⟩
/-- a text's method with one text, a truth told -/
theorem rm_bs {g : Str → Str → Bool} {z y : Str} : RM K (fun x xs H Q => ∃ a b, x = .str a ∧ xs = [.str b] ∧ Q (.bl (g a b)) H) (.str z) [.str y] (.bool (g z y)) := fun I H x xs e hx hxs Q q _ => by
  cases dp_str hx
  cases hxs with
  | cons h1 h2 =>
    cases h2
    cases dp_str h1
    exact ⟨z, y, rfl, rfl, q _ (.bl _)⟩
/-- a text's method with one text, a text told -/
theorem rm_ss {g : Str → Str → Str} {z y : Str} (hl : z.length ≤ 100000) : RM K (fun x xs H Q => ∃ a b, x = .str a ∧ xs = [.str b] ∧ a.length ≤ sizeLine ∧ Q (.str (g a b)) H) (.str z) [.str y] (.str (g z y)) := fun I H x xs e hx hxs Q q _ => by
  cases dp_str hx
  cases hxs with
  | cons h1 h2 =>
    cases h2
    cases dp_str h1
    exact ⟨z, y, rfl, rfl, Nat.le_trans hl (by decide), q _ (.str _)⟩
theorem rd_neS {z u : Str} : RD K rNe (.str z) (.str u) (.bool (!decide (z = u))) := fun I H x y e hx hy Q q _ => by
  cases dp_str hx
  cases dp_str hy
  refine ⟨rfl, ?_⟩
  have h : decide (V.str z = V.str u) = decide (z = u) := by
    by_cases h : z = u
    · subst h
      simp
    · rw [decide_eq_false h, decide_eq_false fun q => h (V.str.inj q)]
  rw [h]
  exact q _ (.bl _)
end
end Lw

set_option Elab.async false
set_option linter.all false
set_option autoImplicit false
set_option maxRecDepth 100000
set_option maxHeartbeats 4000000
/-! enumerate over a text. -/
namespace L2
open PySem PySem.Spec PyProof.Rows
/-- the signs of a text, each in a new pair, counted from k0 -/
def IteS (k0 : Int) (x : Str) : It :=
  ⟨fun i _ => i < x.cps.size, fun i H v H' => ∃ T c, v = .ref T ∧ H T = none ∧ H' = upd H T (.tup [.int (k0 + (i : Nat)), .str ⟨#[c]⟩]) ∧ x.cps[i]? = some c, fun i _ => x.cps.size ≤ i⟩
theorem drawsS {prog : Program} {w : World} {A : Around} (hh : A.handled = none) (it : Addr) (x : Str) (t : Tok) :
    Draws prog w A it [it] x.cps.size (fun i v => ∃ c u, x.cps[i]? = some c ∧ v = .str ⟨#[c]⟩ u) (fun i h => h.IsStrIter it (strIterType x) x t i) := by
  unfold strIterType
  split
  · exact Draws.strAscii hh it x t
  · exact Draws.strWide hh it x t
theorem turn_enumS {P : Program} {w : World} {K : PySem.W.Frag} (k0 : Int) (x : Str) (t : Tok) (e it : Addr) {elts : List Expr} {kk : Nat} {tpos : Pos} :
    Turn P w K (.Tuple elts kk tpos) (IteS k0 x) [e, it] e (fun i h => (∃ old, IsEnum h e it (k0 + ((i : Nat) : Int)) old) ∧ h.IsStrIter it (strIterType x) x t i ∧ e ≠ it) where
  mem := by simp
  obj := fun i h st b hb => by
    obtain ⟨⟨old, he⟩, ⟨o, ho, hc, hd⟩, _⟩ := st
    have e' : b = e ∨ b = it := by simpa using hb
    rcases e' with z | z
    · rw [z]; exact ⟨_, he, fun v q => nomatch q⟩
    · rw [z]; exact ⟨o, ho, fun v q => by rw [hd] at q; cases q⟩
  keep := fun i h h' st k => let ⟨⟨old, he⟩, ⟨o, ho, r⟩, hne⟩ := st; ⟨⟨old, k e (by simp) _ he⟩, ⟨o, k it (by simp) o ho, r⟩, hne⟩
  item := by
    intro X hP hw hK hc i pins s σ H E I hf st hg
    subst hP hw hK
    obtain ⟨⟨old, he⟩, hit, hne⟩ := st
    have hel : e < s.heap.objs.size := Heap.lt_size he
    have hil : it < s.heap.objs.size := by obtain ⟨_, q, _⟩ := hit; exact Heap.lt_size q
    have D := drawsS (prog := X.prog) (w := X.w) (A := X.A.in1) (show X.A.in1.handled = none from I.ok.hd hc) it x t
    refine wpAny_pyNext_enum_itemC D he hit hg hne (by simp [hne]) fun x2 h' tk hP2 ho hst' hT hsz hk => ?_
    obtain ⟨c, u, hcx, rfl⟩ := hP2
    refine ⟨_, rfl, wpAny_letOwnedTupleGo_enum (s := { s with heap := h', toks := tk + 1 }) ho fun h'' he' sb => ?_⟩
    have hT2 : h''.get? s.heap.objs.size = some { cls := .type "tuple", data := .seq #[.int (k0 + (i : Int)) tk, .str ⟨#[c]⟩ u] } := (sb.2 _ (Nat.ne_of_gt hel)).trans hT
    have new : ObjOk X.prog X.w (upd H s.heap.objs.size (.tup [.int (k0 + (i : Nat)), .str ⟨#[c]⟩])) h'' s.heap.objs.size (.tup [.int (k0 + (i : Nat)), .str ⟨#[c]⟩]) :=
      ⟨by show 2 ≤ sizeLine; decide, [.int (k0 + (i : Int)) tk, .str ⟨#[c]⟩ u], .cons ⟨_, rfl⟩ (.cons ⟨_, rfl⟩ .nil), ⟨_, hT2, rfl, _, rfl⟩⟩
    have I1 : Inv X pins σ (upd H s.heap.objs.size (.tup [.int (k0 + (i : Nat)), .str ⟨#[c]⟩])) { s with heap := h'', toks := tk + 1 } :=
      I.turnedNew (ch := [e, it]) (fun b ob hb q => (sb.2 b (fun z => hb (by simp [z]))).trans (hk b ob (fun z => hb (by simp [z])) (fun z => hb (by simp [z])) q)) hf (Nat.le_refl _) new
    refine ⟨.ref s.heap.objs.size, _, I1, rfl, ⟨_, c, rfl, I.hok.fresh (Nat.le_refl _), rfl, hcx⟩, ⟨⟨.str ⟨#[c]⟩ u, ?_⟩, ?_, hne⟩, fun b hb => ?_⟩
    · have e1 : k0 + ((i + 1 : Nat) : Int) = k0 + (i : Int) + 1 := by omega
      rw [e1]; exact he'
    · obtain ⟨o, q, r⟩ := hst'
      exact ⟨o, (sb.2 it (Ne.symm hne)).trans q, r⟩
    · have hb' : b < s.heap.objs.size := by
        have e' : b = e ∨ b = it := by simpa using hb
        rcases e' with z | z
        · rw [z]; exact hel
        · rw [z]; exact hil
      rw [upd_ne (Nat.ne_of_lt hb')]
      exact (hf b hb).1
  done := by
    intro X hP hw hK hc i pins s σ H E I hf st hg
    subst hP hw hK
    obtain ⟨⟨old, he⟩, hit, hne⟩ := st
    obtain ⟨f0, f1, f2, f3, f4, f5⟩ := hf it (by simp)
    have hh1 : X.A.in1.handled = none := I.ok.hd hc
    have hx : x.cps[i]? = none := Array.getElem?_eq_none hg
    have D : Draws X.prog X.w X.A.in1 it [it] i (fun _ _ => False) (fun j h => j = i ∧ h.IsStrIter it (strIterType x) x t i) :=
      { live := fun _ _ st => let ⟨o, ho, _⟩ := st.2; ⟨o, ho⟩
        frame := fun _ _ _ st hk => let ⟨o, ho, r⟩ := st.2; ⟨st.1, o, hk it (by simp) o ho, r⟩
        item := fun j s Q E hj st hQ => absurd st.1 (Nat.ne_of_lt hj)
        done := fun s Q E st hE => by
          have st2 := st.2
          unfold strIterType at st2
          split at st2
          · exact wpAny_nextOf_ascii_end hh1 st2 hx hE
          · exact wpAny_nextOf_wide_end hh1 st2 hx hE }
    exact wpAny_pyNext_enum_endD D he ⟨rfl, hit⟩ fun h' eb => ⟨rfl, I.turned (t' := s.toks) (fun b o hb q => eb b o hb q) f0 f1 f3 f4 f5⟩
  self := fun A i s Q E st h => let ⟨⟨_, he⟩, _⟩ := st; wpAny_pyIter_enum he h
def iEnumS (ta : TA) : TI := fun σ H R => ta σ H fun vs H1 => ∃ x, vs = [V.str x] ∧ R (IteS 0 x) H1
theorem pi_enumS {X : Cx} {e : Expr} {ta : TA} {p pos tpos : Pos} {elts : List Expr} {kk : Nat} (hg : Gl X "enumerate") (hm : X.mg "enumerate" = none) (ha : PA X [e] ta) (hs : starEach [e] X.env = [(false, eval e X.env)] := by rfl) :
    PI X (.Tuple elts kk tpos) (.Call (.Name "enumerate" p) [e] [] pos) (iEnumS ta) := by
  refine ⟨fun pins s σ H R I h => ?_⟩
  refine Call_ (ld_blt I hg hm boot_enumerate (PyProof.Rows.callWith_type1 (thn (ha.run pos pins s σ H _ I h) fun us s1 ⟨vs, H1, I1, r1, q1⟩ => ?_) hs rfl))
  obtain ⟨x, ex, q⟩ := q1
  subst ex
  cases r1 with
  | cons r rr =>
    cases rr
    obtain ⟨t, rfl⟩ := r
    refine enum_begins1 (begins_text x t) trivial fun h' he hit hsz hk => wpAny_pyIter_enum he ?_
    have I2 : Inv X pins σ H1 { s1 with heap := h' } := I1.kept (t' := s1.toks) hk
    have he0 : IsEnum h' (s1.heap.objs.size + 1) s1.heap.objs.size ((0 : Int) + ((0 : Nat) : Int)) .none := he
    refine ⟨s1.heap.objs.size + 1, [s1.heap.objs.size + 1, s1.heap.objs.size], _, _, H1, rfl, I2, turn_enumS 0 x t (s1.heap.objs.size + 1) s1.heap.objs.size, ⟨⟨.none, he0⟩, ⟨_, hit, rfl, rfl⟩, Nat.succ_ne_self _⟩, fun b hb => ?_, q⟩
    have e' : b = s1.heap.objs.size + 1 ∨ b = s1.heap.objs.size := by simpa using hb
    have hle : s1.heap.objs.size ≤ b := by
      rcases e' with z | z
      · rw [z]; exact Nat.le_add_right _ _
      · rw [z]; exact Nat.le_refl _
    exact I1.fpOk hle (I1.hok.fresh hle)
theorem walk_enumS {k0 : Int} {x : Str} : Walk (IteS k0 x) x.cps.size (fun _ => True) (fun i H v H' => ∃ T c, v = .ref T ∧ H T = none ∧ H' = upd H T (.tup [.int (k0 + (i : Nat)), .str ⟨#[c]⟩]) ∧ x.cps[i]? = some c) :=
  ⟨fun i _ hi _ => hi, fun _ _ => Nat.le_refl _, fun i H v H' _ _ y => y⟩
end L2
namespace Lw
open PySem PySem.Spec PyProof.Rows L2
theorem ew_enumS {K : PySem.W.Frag} {tr : TA} {env : Env} {z : Str} (h : EvPA K tr env [.str z]) : EvW K (iEnumS tr) env (pairsD 0 (signs z)) := fun F I0 I σ H E R q =>
  h F I0 I σ H E _ fun vs I1 H1 d e E1 x1 hd ⟨e1, e2⟩ => by
    subst e1 e2
    cases hd with
    | cons hd h2 =>
      cases h2
      have hz := dp_str hd
      subst hz
      have hl : (pairsD 0 (signs z)).length = z.cps.size := by
        rw [pairsD_len]
        unfold signs
        rw [List.length_map, Array.length_toList]
      refine ⟨z, rfl, q _ I1 H1 _ _ E1 x1 (hl ▸ walk_enumS (k0 := 0) (x := z)) (fun _ _ => trivial) fun j H2 x H3 I2 hj x2 x3 y => ?_⟩
      obtain ⟨T, c, ev, hT, eH, hc⟩ := y
      subst ev eH
      refine ⟨.tuple [.int (0 + (j : Int)), .str ⟨#[c]⟩], ?_, .inr ⟨T, _, hT, rfl, .tup (.inl (.inl upd_same)) (.cons (.int _) (.cons (.str _) .nil))⟩⟩
      unfold pairsD signs
      rw [List.getElem?_mapIdx, List.getElem?_map, Array.getElem?_toList, hc]
      rfl
end Lw

set_option Elab.async false
set_option linter.all false
set_option autoImplicit false
set_option maxRecDepth 100000
set_option maxHeartbeats 4000000
/-! Expressions and statements with what they come to, as a function over abstract slots. -/
namespace Px
open PySem PySem.Spec PyProof.Rows L2 Lw
abbrev Env := Lw.Env
/-- the written part, and what KEPT_WORDS holds -/
structure Gx where
  K : PySem.W.Frag
  kept : V
  hk : ∀ I, Dq K I kept (.tuple [.str "place", .str "fire", .str "as"])
inductive AV where
  | dat (d : PyData)
  | lst (b : Bool) (ds : List PyData)
  | dct (kvs : List (Key × PyData))
  | seq (ns : List Int)
  | exc (z : Str) (fs : List (Str × PyData))
abbrev AE := List (Option AV)
/-- p0: the address of the list that was handed in as the first argument, told by true -/
inductive AbV (p0 : Addr) : Val → AV → Prop
  | dat (d : PyData) : AbV p0 (.dat d) (.dat d)
  | lst (p : Addr) (b : Bool) (ds : List PyData) (h : b = true → p = p0) : AbV p0 (.lst p ds) (.lst b ds)
  | dct (p : Addr) (kvs : List (Key × PyData)) : AbV p0 (.dct p kvs) (.dct kvs)
  | seq (ns : List Int) : AbV p0 (.seq ns) (.seq ns)
  | exc (z : Str) (fs : List (Str × PyData)) : AbV p0 (.exc z fs) (.exc z fs)
def gt : AE → Nat → Option AV
  | [], _ => none
  | x :: _, 0 => x
  | _ :: r, n + 1 => gt r n
def st : AE → Nat → Option AV → AE
  | [], _, _ => []
  | _ :: r, 0, y => y :: r
  | x :: r, n + 1, y => x :: st r n y
theorem st_len (y : Option AV) : ∀ (a : AE) (i : Nat), (st a i y).length = a.length
  | [], _ => rfl
  | _ :: _, 0 => rfl
  | _ :: r, n + 1 => congrArg (· + 1) (st_len y r n)
theorem gt_same {y z : AV} : ∀ {a : AE} {i : Nat}, gt (st a i (some y)) i = some z → z = y ∧ i < a.length
  | [], _, h => nomatch h
  | _ :: _, 0, h => ⟨(Option.some.inj h).symm, Nat.succ_pos _⟩
  | _ :: r, n + 1, h => by
    obtain ⟨h1, h2⟩ := gt_same (a := r) (i := n) h
    exact ⟨h1, Nat.succ_lt_succ h2⟩
theorem gt_none {z : AV} : ∀ {a : AE} {i : Nat}, gt (st a i none) i ≠ some z
  | [], _, h => nomatch h
  | _ :: _, 0, h => nomatch h
  | _ :: r, n + 1, h => gt_none (a := r) (i := n) h
theorem gt_ne {y : Option AV} : ∀ {a : AE} {i j : Nat}, i ≠ j → gt (st a i y) j = gt a j
  | [], _, _, _ => rfl
  | _ :: _, 0, 0, h => absurd rfl h
  | _ :: _, 0, _ + 1, _ => rfl
  | _ :: _, _ + 1, 0, _ => rfl
  | _ :: r, _ + 1, _ + 1, h => gt_ne (a := r) fun e => h (congrArg (· + 1) e)
theorem gt_lt {y : AV} : ∀ {a : AE} {i : Nat}, gt a i = some y → i < a.length
  | [], _, h => nomatch h
  | _ :: _, 0, h => Nat.succ_pos _
  | _ :: r, n + 1, h => Nat.succ_lt_succ (gt_lt (a := r) h)
structure Ab (p0 : Addr) (e : Env) (a : AE) : Prop where
  len : e.length = a.length
  at_ : ∀ (i : Nat) (y : AV), gt a i = some y → ∃ x, e[i]? = some (some x) ∧ AbV p0 x y
section
variable {p0 : Addr} {e : Env} {a : AE} {i : Nat}
theorem Ab.dat {d : PyData} (h : Ab p0 e a) (g : gt a i = some (.dat d)) : e[i]? = some (some (.dat d)) := by
  obtain ⟨x, h1, h2⟩ := h.at_ i _ g
  cases h2
  exact h1
theorem Ab.lst {b : Bool} {ds : List PyData} (h : Ab p0 e a) (g : gt a i = some (.lst b ds)) : ∃ p, e[i]? = some (some (.lst p ds)) ∧ (b = true → p = p0) := by
  obtain ⟨x, h1, h2⟩ := h.at_ i _ g
  cases h2
  exact ⟨_, h1, by assumption⟩
theorem Ab.dct {ks : List (Key × PyData)} (h : Ab p0 e a) (g : gt a i = some (.dct ks)) : ∃ p, e[i]? = some (some (.dct p ks)) := by
  obtain ⟨x, h1, h2⟩ := h.at_ i _ g
  cases h2
  exact ⟨_, h1⟩
theorem Ab.seq {ns : List Int} (h : Ab p0 e a) (g : gt a i = some (.seq ns)) : e[i]? = some (some (.seq ns)) := by
  obtain ⟨x, h1, h2⟩ := h.at_ i _ g
  cases h2
  exact h1
theorem Ab.set {x : Val} {y : AV} (h : Ab p0 e a) (i : Nat) (k : AbV p0 x y) : Ab p0 (e.set i (some x)) (st a i (some y)) := by
  refine ⟨by rw [List.length_set, st_len, h.len], fun j z hj => ?_⟩
  by_cases ij : i = j
  · subst ij
    obtain ⟨rfl, hl⟩ := gt_same hj
    exact ⟨x, List.getElem?_set_self (by rw [h.len]; exact hl), k⟩
  · rw [gt_ne ij] at hj
    obtain ⟨w, h1, h2⟩ := h.at_ j z hj
    exact ⟨w, by rw [List.getElem?_set_ne ij]; exact h1, h2⟩
theorem Ab.none (h : Ab p0 e a) (i : Nat) (x : Option Val) : Ab p0 (e.set i x) (st a i none) := by
  refine ⟨by rw [List.length_set, st_len, h.len], fun j z hj => ?_⟩
  by_cases ij : i = j
  · subst ij
    exact absurd hj gt_none
  · rw [gt_ne ij] at hj
    obtain ⟨w, h1, h2⟩ := h.at_ j z hj
    exact ⟨w, by rw [List.getElem?_set_ne ij]; exact h1, h2⟩
theorem Ab.forg (h : Ab p0 e a) (i : Nat) : Ab p0 e (st a i Option.none) := by
  refine ⟨by rw [st_len, h.len], fun j z hj => ?_⟩
  by_cases ij : i = j
  · subst ij
    exact absurd hj gt_none
  · rw [gt_ne ij] at hj
    exact h.at_ j z hj
def wp : AE → List Nat → AE
  | a, [] => a
  | a, v :: vs => st (wp a vs) v none
theorem Ab.wp' (h : Ab p0 e a) : ∀ vs : List Nat, Ab p0 e (wp a vs)
  | [] => h
  | v :: vs => (Ab.wp' h vs).forg v
theorem Ab.wp (h : Ab p0 e a) : ∀ vs : List Nat, Ab p0 (wipeE e vs) (wp a vs)
  | [] => h
  | v :: vs => (Ab.wp h vs).none v _
/-- own lists seen as data -/
def fz : AE → AE
  | [] => []
  | some (.lst _ ds) :: r => some (.dat (.list ds)) :: fz r
  | some (.dat d) :: r => some (.dat d) :: fz r
  | _ :: r => none :: fz r
theorem fz_len : ∀ a : AE, (fz a).length = a.length
  | [] => rfl
  | some (.lst _ _) :: r | some (.dat _) :: r | some (.dct _) :: r | some (.seq _) :: r | some (.exc _ _) :: r | .none :: r => congrArg (· + 1) (fz_len r)
theorem fz_gt {y : AV} : ∀ {a : AE} {i : Nat}, gt (fz a) i = some y → ∃ d, y = .dat d ∧ (gt a i = some (.dat d) ∨ ∃ b ds, d = .list ds ∧ gt a i = some (.lst b ds))
  | [], _, h => nomatch h
  | some (.lst b ds) :: r, 0, h => ⟨_, (Option.some.inj h).symm, .inr ⟨b, ds, rfl, rfl⟩⟩
  | some (.dat d) :: r, 0, h => ⟨_, (Option.some.inj h).symm, .inl rfl⟩
  | some (.dct _) :: _, 0, h | some (.seq _) :: _, 0, h | some (.exc _ _) :: _, 0, h | .none :: _, 0, h => nomatch h
  | some (.lst _ _) :: r, n + 1, h | some (.dat _) :: r, n + 1, h | some (.dct _) :: r, n + 1, h | some (.seq _) :: r, n + 1, h | some (.exc _ _) :: r, n + 1, h | .none :: r, n + 1, h => fz_gt (a := r) (i := n) h
end
/-- what the expression comes to -/
def EvX (g : Gx) (te : TE) (a : AE) (d : PyData) (a' : AE) : Prop := ∀ p0 e, Ab p0 e a → EvE g.K te e fun x e' => x = d ∧ Ab p0 e' a'
structure Xe where
  t : Gx → TE
  ev : AE → Option (PyData × AE)
  ok : ∀ g a d a', ev a = some (d, a') → EvX g (t g) a d a'
structure Xa where
  t : Gx → TA
  ev : AE → Option (List PyData × AE)
  ok : ∀ g a d a', ev a = some (d, a') → ∀ p0 e, Ab p0 e a → EvA g.K (t g) e fun x e' => x = d ∧ Ab p0 e' a'
structure Xt where
  t : Gx → TT
  ev : AE → Option (Bool × AE)
  ok : ∀ g a d a', ev a = some (d, a') → ∀ p0 e, Ab p0 e a → EvT g.K (t g) e fun x e' => x = d ∧ Ab p0 e' a'
structure Xi where
  t : Gx → TI
  ev : AE → Option (List PyData × AE)
  ok : ∀ g a d a', ev a = some (d, a') → ∀ p0 e, Ab p0 e a → EvWE g.K (t g) e fun x e' => x = d ∧ Ab p0 e' a'
structure Xg where
  t : Gx → TG
  ev : PyData → AE → Option AE
  ok : ∀ g a d a', ev d a = some a' → ∀ p0 e, Ab p0 e a → Tgt g.K (t g) d e fun e' => Ab p0 e' a'
structure Xo where
  r : Gx → R2
  f : PyData → PyData → Option PyData
  ok : ∀ g a b c, f a b = some c → RD g.K (r g) a b c
structure Xb where
  r : Gx → List V → Hp → VK → Prop
  f : List PyData → Option PyData
  ok : ∀ g as c, f as = some c → RC g.K (r g) as c
/-! ### expressions -/
def Xe.lit (v : V) (d : PyData) (h : ∀ K I, Dq K I v d) : Xe where
  t _ := tC v
  ev a := some (d, a)
  ok g a d' a' z p0 e he := by
    cases z
    exact (ep_c (h g.K)).imp fun x e' ⟨h1, h2⟩ => by
      subst h1 h2
      exact ⟨rfl, he⟩
def Xe.int (i : Int) : Xe := Xe.lit (.int i) (.int i) fun _ _ => .int i
def Xe.str (z : Str) : Xe := Xe.lit (.str z) (.str z) fun _ _ => .str z
def Xe.bl (b : Bool) : Xe := Xe.lit (.bl b) (.bool b) fun _ _ => .bl b
def Xe.non : Xe := Xe.lit .non .none fun _ _ => .non
/-- KEPT_WORDS -/
def Xe.kept : Xe where
  t g := tC g.kept
  ev a := some (.tuple [.str "place", .str "fire", .str "as"], a)
  ok g a d' a' z p0 e he := by
    cases z
    exact (ep_c g.hk).imp fun x e' ⟨h1, h2⟩ => by
      subst h1 h2
      exact ⟨rfl, he⟩
theorem ev_freeze {K : PySem.W.Frag} {te : TE} {env : Env} {i : Nat} {p : Addr} {ds : List PyData} {P : PyData → Env → Prop} (hk : env[i]? = some (some (.lst p ds))) (h : EvE K te (env.set i (some (.dat (.list ds)))) P) : EvE K te env P := fun F I0 I σ H E Q q => by
  obtain ⟨I', hs, x, E'⟩ := E.freeze hk
  exact h F I0 I' σ H E' Q fun v I2 H2 d e E2 x2 hd hp => q v I2 H2 d e E2 (x.trans x2) hd hp
def varE (a : AE) (i : Nat) : Option (PyData × AE) := match gt a i with
  | some (.dat d) => some (d, a)
  | some (.lst _ ds) => some (.list ds, st a i (some (.dat (.list ds))))
  | _ => none
def Xe.var (i : Nat) : Xe where
  t _ := tVar i
  ev a := varE a i
  ok g a d a' z p0 e he := by
    unfold varE at z
    split at z
    · rename_i d0 h
      cases z
      exact (ep_var (he.dat h)).imp fun x e' ⟨h1, h2⟩ => by
        subst h1 h2
        exact ⟨rfl, he⟩
    · rename_i _ ds h
      cases z
      obtain ⟨p, hp, _⟩ := he.lst h
      have hl : i < e.length := (List.getElem?_eq_some_iff.mp hp).1
      refine ev_freeze hp ((ep_var (List.getElem?_set_self hl)).imp fun x e' ⟨h1, h2⟩ => ?_)
      subst h1 h2
      exact ⟨rfl, he.set i (.dat _)⟩
    · cases z
def Xe.op (o : Xo) (x y : Xe) : Xe where
  t g := tOp (o.r g) (x.t g) (y.t g)
  ev a := (x.ev a).bind fun p => (y.ev p.2).bind fun q => (o.f p.1 q.1).bind fun c => some (c, q.2)
  ok g a d a' h p0 e he := by
    obtain ⟨⟨d1, a1⟩, h1, h⟩ := Option.bind_eq_some_iff.mp h
    obtain ⟨⟨d2, a2⟩, h2, h⟩ := Option.bind_eq_some_iff.mp h
    obtain ⟨c, h3, h⟩ := Option.bind_eq_some_iff.mp h
    cases h
    refine ev_op (x.ok g a d1 a1 h1 p0 e he) fun z e1 ⟨ez, he1⟩ => ?_
    subst ez
    refine (y.ok g a1 d2 a2 h2 p0 e1 he1).imp fun z2 e2 ⟨ez2, he2⟩ => ?_
    subst ez2
    exact ⟨_, o.ok g _ _ _ h3, rfl, he2⟩
def Xa.nil : Xa where
  t _ := tNil
  ev a := some ([], a)
  ok g a d a' z p0 e he := by
    cases z
    exact ea_nil.imp fun x e' ⟨h1, h2⟩ => by
      subst h1 h2
      exact ⟨rfl, he⟩
def Xa.cons (x : Xe) (xs : Xa) : Xa where
  t g := tCons (x.t g) (xs.t g)
  ev a := (x.ev a).bind fun p => (xs.ev p.2).bind fun q => some (p.1 :: q.1, q.2)
  ok g a d a' h p0 e he := by
    obtain ⟨⟨d1, a1⟩, h1, h⟩ := Option.bind_eq_some_iff.mp h
    obtain ⟨⟨d2, a2⟩, h2, h⟩ := Option.bind_eq_some_iff.mp h
    cases h
    refine ev_cons (x.ok g a d1 a1 h1 p0 e he) fun z e1 ⟨ez, he1⟩ => ?_
    subst ez
    refine (xs.ok g a1 d2 a2 h2 p0 e1 he1).imp fun z2 e2 ⟨ez2, he2⟩ => ?_
    subst ez2
    exact ⟨rfl, he2⟩
def Xe.tup (xs : Xa) : Xe where
  t g := tTup (xs.t g)
  ev a := (xs.ev a).bind fun p => if p.1.length ≤ 100000 then some (.tuple p.1, p.2) else none
  ok g a d a' h p0 e he := by
    obtain ⟨⟨d1, a1⟩, h1, h⟩ := Option.bind_eq_some_iff.mp h
    split at h
    · rename_i hl
      cases h
      refine ev_tup (xs.ok g a d1 a1 h1 p0 e he) fun ds e1 ⟨ez, he1⟩ => ?_
      subst ez
      exact ⟨hl, rfl, he1⟩
    · cases h
def Xe.lst (xs : Xa) : Xe where
  t g := tLst (xs.t g)
  ev a := (xs.ev a).bind fun p => if p.1.length ≤ 100000 then some (.list p.1, p.2) else none
  ok g a d a' h p0 e he := by
    obtain ⟨⟨d1, a1⟩, h1, h⟩ := Option.bind_eq_some_iff.mp h
    split at h
    · rename_i hl
      cases h
      refine ev_lst (xs.ok g a d1 a1 h1 p0 e he) fun ds e1 ⟨ez, he1⟩ => ?_
      subst ez
      exact ⟨hl, rfl, he1⟩
    · cases h
/-- a built-in -/
def Xe.cb (b : Xb) (xs : Xa) : Xe where
  t g := tCB (b.r g) (xs.t g)
  ev a := (xs.ev a).bind fun p => (b.f p.1).bind fun c => some (c, p.2)
  ok g a d a' h p0 e he := by
    obtain ⟨⟨d1, a1⟩, h1, h⟩ := Option.bind_eq_some_iff.mp h
    obtain ⟨c, h3, h⟩ := Option.bind_eq_some_iff.mp h
    cases h
    refine ev_cb ((xs.ok g a d1 a1 h1 p0 e he).imp fun ds e1 ⟨ez, he1⟩ => ?_)
    subst ez
    exact ⟨_, b.ok g _ _ h3, rfl, he1⟩
/-! truths as values -/
def Xe.andV (x y : Xe) : Xe where
  t g := tAndV (x.t g) (y.t g)
  ev a := (x.ev a).bind fun p => match p.1 with
    | .bool true => y.ev p.2
    | .bool false => some (.bool false, p.2)
    | _ => none
  ok g a d a' h p0 e he := by
    obtain ⟨⟨d1, a1⟩, h1, h⟩ := Option.bind_eq_some_iff.mp h
    refine ev_andV ((x.ok g a d1 a1 h1 p0 e he).imp fun z e1 ⟨ez, he1⟩ => ?_)
    subst ez
    dsimp only at h
    split at h
    · exact ⟨true, rfl, by rw [if_pos rfl]; exact y.ok g _ _ _ h p0 e1 he1⟩
    · cases h
      exact ⟨false, rfl, by rw [if_neg Bool.false_ne_true]; exact ⟨rfl, he1⟩⟩
    · cases h
def Xe.orV (x y : Xe) : Xe where
  t g := tOrV (x.t g) (y.t g)
  ev a := (x.ev a).bind fun p => match p.1 with
    | .bool true => some (.bool true, p.2)
    | .bool false => y.ev p.2
    | _ => none
  ok g a d a' h p0 e he := by
    obtain ⟨⟨d1, a1⟩, h1, h⟩ := Option.bind_eq_some_iff.mp h
    refine ev_orV ((x.ok g a d1 a1 h1 p0 e he).imp fun z e1 ⟨ez, he1⟩ => ?_)
    subst ez
    dsimp only at h
    split at h
    · cases h
      exact ⟨true, rfl, by rw [if_pos rfl]; exact ⟨rfl, he1⟩⟩
    · exact ⟨false, rfl, by rw [if_neg Bool.false_ne_true]; exact y.ok g _ _ _ h p0 e1 he1⟩
    · cases h
/-! tests -/
def Xt.of (x : Xe) : Xt where
  t g := tTest (x.t g)
  ev a := (x.ev a).bind fun p => match p.1 with
    | .bool b => some (b, p.2)
    | _ => none
  ok g a d a' h p0 e he := by
    obtain ⟨⟨d1, a1⟩, h1, h⟩ := Option.bind_eq_some_iff.mp h
    refine et_test ((x.ok g a d1 a1 h1 p0 e he).imp fun z e1 ⟨ez, he1⟩ => ?_)
    subst ez
    dsimp only at h
    split at h
    · cases h
      exact ⟨_, rfl, rfl, he1⟩
    · cases h
def Xt.and (x y : Xt) : Xt where
  t g := tAnd (x.t g) (y.t g)
  ev a := (x.ev a).bind fun p => if p.1 = true then y.ev p.2 else some (false, p.2)
  ok g a d a' h p0 e he := by
    obtain ⟨⟨d1, a1⟩, h1, h⟩ := Option.bind_eq_some_iff.mp h
    refine et_and ((x.ok g a d1 a1 h1 p0 e he).imp fun z e1 ⟨ez, he1⟩ => ?_)
    subst ez
    split at h
    · rename_i hz
      rw [if_pos hz]
      exact y.ok g _ _ _ h p0 e1 he1
    · rename_i hz
      cases h
      rw [if_neg hz]
      exact ⟨rfl, he1⟩
def Xt.or (x y : Xt) : Xt where
  t g := tOr (x.t g) (y.t g)
  ev a := (x.ev a).bind fun p => if p.1 = true then some (true, p.2) else y.ev p.2
  ok g a d a' h p0 e he := by
    obtain ⟨⟨d1, a1⟩, h1, h⟩ := Option.bind_eq_some_iff.mp h
    refine et_or ((x.ok g a d1 a1 h1 p0 e he).imp fun z e1 ⟨ez, he1⟩ => ?_)
    subst ez
    split at h
    · rename_i hz
      cases h
      rw [if_pos hz]
      exact ⟨rfl, he1⟩
    · rename_i hz
      rw [if_neg hz]
      exact y.ok g _ _ _ h p0 e1 he1
theorem et_not {K : PySem.W.Frag} {tt : TT} {env : Env} {P : Bool → Env → Prop} (ha : EvT K tt env fun p e => P (!p) e) : EvT K (tNot tt) env P := fun F I0 I σ H E Q q =>
  ha F I0 I σ H E _ fun I1 H1 p e E1 x1 z => q I1 H1 (!p) e E1 x1 z
def Xt.not (x : Xt) : Xt where
  t g := tNot (x.t g)
  ev a := (x.ev a).bind fun p => some (!p.1, p.2)
  ok g a d a' h p0 e he := by
    obtain ⟨⟨d1, a1⟩, h1, h⟩ := Option.bind_eq_some_iff.mp h
    cases h
    refine et_not ((x.ok g a d1 a1 h1 p0 e he).imp fun z e1 ⟨ez, he1⟩ => ?_)
    subst ez
    exact ⟨rfl, he1⟩
def Xt.yes : Xt where
  t _ := tYes
  ev a := some (true, a)
  ok g a d a' h p0 e he := by
    cases h
    exact ept_yes.imp fun x e' ⟨h1, h2⟩ => by
      subst h1 h2
      exact ⟨rfl, he⟩
def Xe.ifE (c : Xt) (x y : Xe) : Xe where
  t g := tIf (c.t g) (x.t g) (y.t g)
  ev a := (c.ev a).bind fun p => if p.1 = true then x.ev p.2 else y.ev p.2
  ok g a d a' h p0 e he := by
    obtain ⟨⟨d1, a1⟩, h1, h⟩ := Option.bind_eq_some_iff.mp h
    refine ev_ifE ((c.ok g a d1 a1 h1 p0 e he).imp fun z e1 ⟨ez, he1⟩ => ?_)
    subst ez
    split at h
    · rename_i hz
      rw [if_pos hz]
      exact x.ok g _ _ _ h p0 e1 he1
    · rename_i hz
      rw [if_neg hz]
      exact y.ok g _ _ _ h p0 e1 he1
/-! own lists looked at within something flat -/
def fzE : Env → Env
  | [] => []
  | some (.lst _ ds) :: r => some (.dat (.list ds)) :: fzE r
  | some (.dat d) :: r => some (.dat d) :: fzE r
  | _ :: r => none :: fzE r
theorem fzE_len : ∀ e : Env, (fzE e).length = e.length
  | [] => rfl
  | some (.lst _ _) :: r | some (.dat _) :: r | some (.dct _ _) :: r | some (.seq _) :: r | some (.exc _ _) :: r | some (.dic _ _) :: r | some (.prs _ _) :: r | some (.ins _ _ _ _) :: r | none :: r => congrArg (· + 1) (fzE_len r)
theorem fzE_at {x : Val} : ∀ {e : Env} {i : Nat}, (fzE e)[i]? = some (some x) → ∃ d, x = .dat d ∧ (e[i]? = some (some (.dat d)) ∨ ∃ p ds, d = .list ds ∧ e[i]? = some (some (.lst p ds)))
  | [], _, h => by simp [fzE] at h
  | some (.lst p ds) :: r, 0, h => by
    have h : some (Val.dat (.list ds)) = some x := by simpa [fzE] using h
    exact ⟨_, (Option.some.inj h).symm, .inr ⟨p, ds, rfl, rfl⟩⟩
  | some (.dat d) :: r, 0, h => by
    have h : some (Val.dat d) = some x := by simpa [fzE] using h
    exact ⟨_, (Option.some.inj h).symm, .inl rfl⟩
  | some (.dct _ _) :: _, 0, h | some (.seq _) :: _, 0, h | some (.exc _ _) :: _, 0, h | some (.dic _ _) :: _, 0, h | some (.prs _ _) :: _, 0, h | some (.ins _ _ _ _) :: _, 0, h | none :: _, 0, h => by simp [fzE] at h
  | some (.lst _ _) :: r, n + 1, h | some (.dat _) :: r, n + 1, h | some (.dct _ _) :: r, n + 1, h | some (.seq _) :: r, n + 1, h | some (.exc _ _) :: r, n + 1, h | some (.dic _ _) :: r, n + 1, h | some (.prs _ _) :: r, n + 1, h | some (.ins _ _ _ _) :: r, n + 1, h | none :: r, n + 1, h => by
    have h : (fzE r)[n]? = some (some x) := by simpa [fzE] using h
    simpa using fzE_at h
theorem fzE_is : ∀ {e : Env} {i : Nat}, (∀ d, e[i]? = some (some (.dat d)) → (fzE e)[i]? = some (some (.dat d))) ∧ ∀ p ds, e[i]? = some (some (.lst p ds)) → (fzE e)[i]? = some (some (.dat (.list ds)))
  | [], _ => ⟨fun _ h => by simp at h, fun _ _ h => by simp at h⟩
  | some (.lst _ _) :: r, 0 | some (.dat _) :: r, 0 | some (.dct _ _) :: r, 0 | some (.seq _) :: r, 0 | some (.exc _ _) :: r, 0 | some (.dic _ _) :: r, 0 | some (.prs _ _) :: r, 0 | some (.ins _ _ _ _) :: r, 0 | none :: r, 0 => ⟨fun _ h => by simp_all [fzE], fun _ _ h => by simp_all [fzE]⟩
  | some (.lst _ _) :: r, n + 1 | some (.dat _) :: r, n + 1 | some (.dct _ _) :: r, n + 1 | some (.seq _) :: r, n + 1 | some (.exc _ _) :: r, n + 1 | some (.dic _ _) :: r, n + 1 | some (.prs _ _) :: r, n + 1 | some (.ins _ _ _ _) :: r, n + 1 | none :: r, n + 1 => by
    have := fzE_is (e := r) (i := n)
    exact ⟨fun d h => by simpa [fzE] using this.1 d (by simpa using h), fun p ds h => by simpa [fzE] using this.2 p ds (by simpa using h)⟩
theorem Ab.fz {p0 : Addr} {e : Env} {a : AE} (h : Ab p0 e a) : Ab p0 (fzE e) (fz a) := by
  refine ⟨by rw [fzE_len, fz_len, h.len], fun i y hy => ?_⟩
  obtain ⟨d, rfl, h1 | ⟨b, ds, rfl, h1⟩⟩ := fz_gt hy
  · exact ⟨_, fzE_is.1 d (h.dat h1), .dat _⟩
  · obtain ⟨p, hp, _⟩ := h.lst h1
    exact ⟨_, fzE_is.2 p ds hp, .dat _⟩
theorem EnvI.lend {K : PySem.W.Frag} {F I0 I H : Hp} {σ : L2.St} {env : Env} (E : EnvI K F I0 I σ H env) : EnvI K H H H σ H (fzE env) := by
  refine ⟨Ex.refl H, Ex.refl H, Ex.refl H, fun _ _ h => h, by rw [fzE_len, E.len], fun i x h => ?_, fun i j x y hij hi hj cx cy => ?_⟩
  · obtain ⟨d, rfl, h1 | ⟨p, ds, rfl, h1⟩⟩ := fzE_at h
    · obtain ⟨v, hs, hv⟩ := E.at_ i _ h1
      exact ⟨v, hs, dp_mono E.ih hv⟩
    · obtain ⟨v, hs, rfl, hF, hI, xs, hH, hd⟩ := E.at_ i _ h1
      exact ⟨_, hs, Dq.lst hH (dpA_mono E.ih hd)⟩
  · obtain ⟨d, rfl, _⟩ := fzE_at hi
    cases cx
theorem flat_any {K : PySem.W.Frag} {I J : Hp} {v : V} {d : PyData} (h : Dq K I v d) (f : flatD d = true) : Dq K J v d := by
  cases h with
  | non => exact .non
  | bl b => exact .bl b
  | int i => exact .int i
  | str x => exact .str x
  | lst _ _ => cases f
  | tup _ _ => cases f
  | dct _ _ _ _ => cases f
theorem ev_tmp {K : PySem.W.Frag} {te : TE} {env : Env} {P Q : PyData → Env → Prop} (h : EvE K te (fzE env) P) (k : ∀ d e, P d e → flatD d = true ∧ Q d env) : EvE K te env Q := fun F I0 I σ H E R q =>
  h H H H σ H (EnvI.lend E) R fun v I1 H1 d e E1 x1 hd hp => by
    obtain ⟨hf, hq⟩ := k d e hp
    exact q v I H1 d env (E.called (Ex.refl I) (E.ih.trans E1.fh) E1.fh fun _ _ z => z) (Ex.refl I) (flat_any hd hf) hq
def Xe.tmp (x : Xe) : Xe where
  t g := x.t g
  ev a := (x.ev (fz a)).bind fun p => if flatD p.1 = true then some (p.1, a) else none
  ok g a d a' h p0 e he := by
    obtain ⟨⟨d1, a1⟩, h1, h⟩ := Option.bind_eq_some_iff.mp h
    split at h
    · rename_i hf
      cases h
      refine ev_tmp (x.ok g _ _ _ h1 p0 _ he.fz) fun z e1 ⟨ez, _⟩ => ?_
      subst ez
      exact ⟨hf, rfl, he⟩
    · cases h
theorem et_tmp {K : PySem.W.Frag} {tt : TT} {env : Env} {P Q : Bool → Env → Prop} (h : EvT K tt (fzE env) P) (k : ∀ d e, P d e → Q d env) : EvT K tt env Q := fun F I0 I σ H E R q =>
  h H H H σ H (EnvI.lend E) R fun I1 H1 d e E1 x1 hp => q I H1 d env (E.called (Ex.refl I) (E.ih.trans E1.fh) E1.fh fun _ _ z => z) (Ex.refl I) (k d e hp)
def Xt.tmp (x : Xt) : Xt where
  t g := x.t g
  ev a := (x.ev (fz a)).bind fun p => some (p.1, a)
  ok g a d a' h p0 e he := by
    obtain ⟨⟨d1, a1⟩, h1, h⟩ := Option.bind_eq_some_iff.mp h
    cases h
    refine et_tmp (x.ok g _ _ _ h1 p0 _ he.fz) fun z e1 ⟨ez, _⟩ => ?_
    subst ez
    exact ⟨rfl, he⟩
end Px

set_option Elab.async false
set_option linter.all false
set_option autoImplicit false
set_option maxRecDepth 100000
set_option maxHeartbeats 4000000
/-! New lists, calls of defs, comprehensions, dicts. -/
namespace Px
open PySem PySem.Spec PyProof.Rows L2 Lw
section
variable {K : PySem.W.Frag} {F I0 I I' H H' : Hp} {σ : L2.St} {env : Env}
/-- what was guarded is nobody's -/
theorem EnvI.unguardF {D : Addr} {o : HO} (E : EnvI K (upd F D o) I0 I σ H env) (hF : F D = none) (h0 : I0 D = none) : I D = none ∧ H D = some o ∧ EnvI K F I0 I σ H env ∧ ∀ (i : Nat) (x : Lw.Val), env[i]? = some (some x) → isCell x = true → σ[i]? ≠ some (some (.ref D)) := by
  have hI : I D = none := E.fr D (by rw [upd_same]; exact fun z => nomatch z) h0
  have hH : H D = some o := E.fh D o upd_same
  have off : ∀ a, (upd F D o) a = none → a ≠ D := fun a q z => by
    rw [z, upd_same] at q
    cases q
  refine ⟨hI, hH, ⟨fun a u h => E.fh a u (by rw [upd_ne (ne_of_none h hF)]; exact h), E.oi, E.ih, fun a h1 h2 => ?_, E.len, fun i x h => ?_, E.ne⟩, fun i x h cx q => ?_⟩
  · have z : a ≠ D := fun z => h1 (z ▸ hF)
    exact E.fr a (by rw [upd_ne z]; exact h1) h2
  · obtain ⟨v, h1, h2⟩ := E.at_ i x h
    refine ⟨v, h1, ?_⟩
    have less : ∀ a, (upd F D o) a = none → F a = none := fun a q => by
      rw [upd_ne (off a q)] at q
      exact q
    cases x with
    | dat d => exact h2
    | lst a ds =>
      obtain ⟨rfl, hf, hr⟩ := h2
      exact ⟨rfl, less _ hf, hr⟩
    | dic a ds =>
      obtain ⟨rfl, hf, hr⟩ := h2
      exact ⟨rfl, less _ hf, hr⟩
    | prs p n =>
      obtain ⟨rfl, hf, hr⟩ := h2
      exact ⟨rfl, less _ hf, hr⟩
    | ins p C dx fs =>
      obtain ⟨rfl, hf, hr⟩ := h2
      exact ⟨rfl, less _ hf, hr⟩
    | dct p kvs =>
      obtain ⟨rfl, hf, hr⟩ := h2
      exact ⟨rfl, less _ hf, hr⟩
    | seq ns => exact h2
    | exc C fs => exact h2
  · obtain ⟨v, h1, h2⟩ := E.at_ i x h
    obtain ⟨a, o', rfl, hf, _, _⟩ := h2.there cx
    rw [h1] at q
    cases q
    exact off _ hf rfl
/-- a slot gets a cell that is nobody else's -/
theorem EnvI.setOwn (E : EnvI K F I0 I σ H env) {D : Addr} {x : Val} (i : Nat) (hD : ∀ (j : Nat) (y : Lw.Val), env[j]? = some (some y) → isCell y = true → σ[j]? ≠ some (some (.ref D))) (hx : VOk K F I H (.ref D) x) : EnvI K F I0 I (σ.set i (some (.ref D))) H (env.set i (some x)) := by
  refine ⟨E.fh, E.oi, E.ih, E.fr, by rw [List.length_set, List.length_set, E.len], fun j y h => ?_, fun j l y z hjl hj hl cy cz => ?_⟩
  · by_cases e : i = j
    · subst e
      have hk : i < env.length := by
        have := (List.getElem?_eq_some_iff.mp h).1
        simpa using this
      rw [List.getElem?_set_self hk] at h
      cases h
      exact ⟨.ref D, List.getElem?_set_self (by rw [← E.len]; exact hk), hx⟩
    · rw [List.getElem?_set_ne e] at h
      obtain ⟨w, h1, h2⟩ := E.at_ j y h
      exact ⟨w, by rw [List.getElem?_set_ne e]; exact h1, h2⟩
  · have other : ∀ {m u}, i ≠ m → (env.set i (some x))[m]? = some (some u) → isCell u = true → (σ.set i (some (.ref D)))[m]? ≠ some (some (.ref D)) := fun {m u} km h c => by
      rw [List.getElem?_set_ne km] at h ⊢
      exact hD m u h c
    have self : ∀ {m u}, i = m → (env.set i (some x))[m]? = some (some u) → (σ.set i (some (.ref D)))[m]? = some (some (.ref D)) := fun {m u} km h => by
      subst km
      have hk : i < env.length := by
        have := (List.getElem?_eq_some_iff.mp h).1
        simpa using this
      exact List.getElem?_set_self (by rw [← E.len]; exact hk)
    by_cases ei : i = j
    · rw [self ei hj]
      have ej : i ≠ l := fun e => hjl (ei.symm.trans e)
      exact fun q => other ej hl cz q.symm
    · by_cases ej : i = l
      · rw [self ej hl]
        exact other ei hj cy
      · rw [List.getElem?_set_ne ei] at hj ⊢
        rw [List.getElem?_set_ne ej] at hl ⊢
        exact E.ne j l y z hjl hj hl cy cz
theorem EnvI.noCell (E : EnvI K F I0 I σ H env) {D : Addr} (hD : H D = none) : ∀ (j : Nat) (y : Lw.Val), env[j]? = some (some y) → isCell y = true → σ[j]? ≠ some (some (.ref D)) := fun j y h c q => by
  obtain ⟨w, h1, h2⟩ := E.at_ j y h
  obtain ⟨a, o, rfl, _, _, ha⟩ := h2.there c
  rw [h1] at q
  cases q
  rw [hD] at ha
  cases ha
/-- a list that is new becomes data -/
theorem EnvI.toData (E : EnvI K F I0 I σ H env) {D : Addr} {xs : List V} (hF : F D = none) (hI : I D = none) (hH : H D = some (.lst xs)) (hc : ∀ (j : Nat) (y : Lw.Val), env[j]? = some (some y) → isCell y = true → σ[j]? ≠ some (some (.ref D))) : EnvI K F I0 (upd I D (.lst xs)) σ H env := by
  have e1 : Ex I (upd I D (.lst xs)) := Ex.new hI
  refine ⟨E.fh, E.oi.trans e1, fun b o h => ?_, fun b h1 h2 => ?_, E.len, fun i x h => ?_, E.ne⟩
  · by_cases z : b = D
    · subst z
      rw [upd_same] at h
      exact hH.trans h
    · rw [upd_ne z] at h
      exact E.ih b o h
  · have z : b ≠ D := fun z => h1 (z ▸ hF)
    rw [upd_ne z]
    exact E.fr b h1 h2
  · obtain ⟨v, h1, h2⟩ := E.at_ i x h
    refine ⟨v, h1, h2.grow e1 fun b eb hx hi => ⟨?_, rfl⟩⟩
    have z : b ≠ D := fun w => hc i x h hx (by rw [h1, eb, w])
    rw [upd_ne z]
    exact hi
/-- it is data, locked -/
theorem EnvI.toLocked (E : EnvI K F I0 I σ H env) {D : Addr} {o o' : HO} (hF : F D = none) (hI : I D = none) (hH : H D = some o) (hc : ∀ (j : Nat) (y : Lw.Val), env[j]? = some (some y) → isCell y = true → σ[j]? ≠ some (some (.ref D))) : EnvI K F I0 (upd I D o') σ (upd H D o') env := by
  have e1 : Ex I (upd I D o') := Ex.new hI
  refine ⟨E.fh.cell hF, E.oi.trans e1, E.ih.upd2, fun b h1 h2 => ?_, E.len, fun i x h => ?_, E.ne⟩
  · have z : b ≠ D := fun z => h1 (z ▸ hF)
    rw [upd_ne z]
    exact E.fr b h1 h2
  · obtain ⟨v, h1, h2⟩ := E.at_ i x h
    refine ⟨v, h1, h2.grow e1 fun b eb hx hi => ?_⟩
    have z : b ≠ D := fun w => hc i x h hx (by rw [h1, eb, w])
    rw [upd_ne z, upd_ne z]
    exact ⟨hi, rfl⟩
end
/-! ### new lists -/
def EvF (K : PySem.W.Frag) (te : TE) (env : Env) (P : List PyData → Env → Prop) : Prop :=
  ∀ (F I0 I : Hp) (σ : L2.St) (H : Hp), EnvI K F I0 I σ H env → ∀ Q : VK,
    (∀ (D : Addr) (I' H' : Hp) (xs : List V) (ds : List PyData) (env' : Env), EnvI K F I0 I' σ H' env' → Ex I I' → F D = none → I0 D = none → I' D = none → H' D = some (.lst xs) → DqAll K I' xs ds → (∀ (j : Nat) (y : Lw.Val), env'[j]? = some (some y) → isCell y = true → σ[j]? ≠ some (some (.ref D))) → P ds env' → Q (.ref D) H') → te σ H Q
structure Xf where
  t : Gx → TE
  ev : AE → Option (List PyData × AE)
  ok : ∀ g a d a', ev a = some (d, a') → ∀ p0 e, Ab p0 e a → EvF g.K (t g) e fun x e' => x = d ∧ Ab p0 e' a'
def Xe.ofF (x : Xf) : Xe where
  t := x.t
  ev a := (x.ev a).bind fun p => some (.list p.1, p.2)
  ok g a d a' h p0 e he F I0 I σ H E Q q := by
    obtain ⟨⟨d1, a1⟩, h1, h⟩ := Option.bind_eq_some_iff.mp h
    cases h
    refine x.ok g a _ _ h1 p0 e he F I0 I σ H E Q fun D I' H' xs ds env' E' x1 hF _ hI hH hd hc ⟨ed, ha⟩ => ?_
    subst ed
    exact q _ (upd I' D (.lst xs)) H' _ env' (EnvI.toData E' hF hI hH hc) (x1.trans (Ex.new hI)) (.lst upd_same (dpA_mono (Ex.new hI) hd)) ⟨rfl, ha⟩
def Xf.lst (xs : Xa) : Xf where
  t g := tLst (xs.t g)
  ev a := (xs.ev a).bind fun p => if p.1.length ≤ 100000 then some p else none
  ok g a d a' h p0 e he F I0 I σ H E Q q := by
    obtain ⟨⟨d1, a1⟩, h1, h⟩ := Option.bind_eq_some_iff.mp h
    split at h
    · rename_i hl
      cases h
      refine xs.ok g a _ _ h1 p0 e he F I0 I σ H E _ fun vs I1 H1 ds e1 E1 x1 hvs ⟨ed, ha⟩ => ?_
      subst ed
      refine ⟨by rw [dpA_len hvs]; exact Nat.le_trans hl (by decide), fun D hD => ?_⟩
      exact q D I1 _ vs _ e1 (E1.newC hD) x1 (E1.fh.back hD) ((E1.oi.trans E1.ih).back hD) (E1.ih.back hD) upd_same hvs (EnvI.noCell E1 hD) ⟨rfl, ha⟩
    · cases h
/-- list(t) -/
def Xf.ofT (x : Xe) : Xf where
  t g := tCB (rLstOf g.K) (tCons (x.t g) tNil)
  ev a := (x.ev a).bind fun p => match p.1 with
    | .tuple ds => some (ds, p.2)
    | .list ds => some (ds, p.2)
    | _ => none
  ok g a d a' h p0 e he F I0 I σ H E Q q := by
    obtain ⟨⟨d1, a1⟩, h1, h⟩ := Option.bind_eq_some_iff.mp h
    refine x.ok g a _ _ h1 p0 e he F I0 I σ H E _ fun v I1 H1 ds e1 E1 x1 hv ⟨ed, ha⟩ => ?_
    subst ed
    have go : ∀ (p : Addr) (ys : List V) (es : List PyData), v = .ref p → (SqL g.K I1 p ys ∨ SqT g.K I1 p ys) → DqAll g.K I1 ys es → es = d ∧ a1 = a' → rLstOf g.K [v] H1 Q := fun p ys es ev hs hd ⟨e1', e2'⟩ => by
      subst e1' e2'
      refine ⟨p, ys, by rw [ev], hs.imp E1.ih.l E1.ih.t, fun D hD => ?_⟩
      exact q D I1 _ ys _ e1 (E1.newC hD) x1 (E1.fh.back hD) ((E1.oi.trans E1.ih).back hD) (E1.ih.back hD) upd_same hd (EnvI.noCell E1 hD) ⟨rfl, ha⟩
    dsimp only at h
    split at h
    · obtain ⟨p, ys, ev, hs, hd⟩ := dp_tup hv
      exact go p ys _ ev (.inr hs) hd (by cases h; exact ⟨rfl, rfl⟩)
    · obtain ⟨p, ys, ev, hs, hd⟩ := dp_lst hv
      exact go p ys _ ev (.inl (.inl (.inl hs))) hd (by cases h; exact ⟨rfl, rfl⟩)
    · cases h
theorem evF_lc {K : PySem.W.Frag} {wi : TI} {g : TG} {tt : TT} {te : TE} {env : Env} {vs : List Nat} {R : List PyData → Env → Prop} {Pd : List PyData → Env → Prop} (hw : EvWE K wi env Pd) (hg : OwnG g vs)
    (k : ∀ ds e0, Pd ds e0 → ds.length ≤ 50000 ∧ ∃ Inv : Nat → List PyData → Env → Prop, Inv 0 [] (wipeE e0 vs) ∧ (∀ (j : Nat) (d : PyData) (as : List PyData) (e : Env), ds[j]? = some d → Inv j as e → Tgt K g d e fun e' => EvT K tt e' fun p e2 => if p = true then EvE K te e2 fun c e3 => Inv (j + 1) (as ++ [c]) (wipeE e3 vs) else Inv (j + 1) as (wipeE e2 vs)) ∧
      ∀ as e, Inv ds.length as e → R as e) : EvF K (tLc wi g tt te vs) env R := fun F I0 I σ H E Q q =>
  hw F I0 I σ H E _ fun J I1 H1 G Y ds e0 pd E1 x1 W hG hY => fun D hD => by
    obtain ⟨hn, Inv, h0, hs, hdone⟩ := k ds e0 pd
    have hF : F D = none := E1.fh.back hD
    have h0D : I0 D = none := (E1.oi.trans E1.ih).back hD
    have start_ : EnvI K (upd F D (.lst [])) I0 I1 (wipe σ vs) (upd H1 D (.lst [])) (wipeE e0 vs) := (E1.guard (o := .lst []) hD).wiped vs
    refine lc_it W (fun j H' => ∃ I' e acc as, EnvI K (upd F D (.lst acc)) I0 I' (wipe σ vs) H' e ∧ Ex I1 I' ∧ DqAll K I' acc as ∧ as.length ≤ j ∧ wipeE e vs = e ∧ Inv j as e) ⟨I1, _, [], [], start_, Ex.refl _, .nil, Nat.le_refl _, wipeE_idem _ _, h0⟩ (fun j H' _ ⟨I', e, acc, as, E', x', _⟩ => hG H' (x'.trans E'.ih)) (fun j x H' H3 hj hP hy => ?_) (fun H' ⟨I', e, acc, as, E', x', hacc, hlen, hwe, p⟩ => ?_)
    · obtain ⟨I', e, acc, as, E', x', hacc, hlen, hwe, p⟩ := hP
      obtain ⟨d, hdj, hx⟩ := hY j H' x H3 I' hj x' E'.ih hy
      have go : ∀ I3, Ex I' I3 → EnvI K (upd F D (.lst acc)) I0 I3 (wipe σ vs) H3 e → Dq K I3 x d → g x (wipe σ vs) H3 fun σ2 H2 => wipe σ2 vs = wipe σ vs ∧ tt σ2 H2 fun b H3 =>
          if b = true then te σ2 H3 fun y H4 => ∃ acc, H4 D = some (.lst acc) ∧ acc.length < sizeLine ∧ ∃ I' e acc' as, EnvI K (upd F D (.lst acc')) I0 I' (wipe σ vs) (upd H4 D (.lst (acc ++ [y]))) e ∧ Ex I1 I' ∧ DqAll K I' acc' as ∧ as.length ≤ j + 1 ∧ wipeE e vs = e ∧ Inv (j + 1) as e
          else ∃ I' e acc as, EnvI K (upd F D (.lst acc)) I0 I' (wipe σ vs) H3 e ∧ Ex I1 I' ∧ DqAll K I' acc as ∧ as.length ≤ j + 1 ∧ wipeE e vs = e ∧ Inv (j + 1) as e := fun I3 x3 E3 hxd => by
        refine hg (wipe σ vs) x (wipe σ vs) H3 _ (wipe_idem σ vs) (hs j d as e hdj p _ I0 I3 (wipe σ vs) H3 x E3 hxd _ fun σ2 e2 E2 r _ hw2 => ?_)
        · refine r _ I0 I3 σ2 H3 E2 _ fun I4 H4 b e4 E4 x4 hb => ?_
          cases b with
          | true =>
            rw [if_pos rfl] at hb ⊢
            refine hb _ I0 I4 σ2 H4 E4 _ fun y I5 H5 c e5 E5 x5 hy p5 => ?_
            have hH5 : H5 D = some (.lst acc) := E5.fh D _ upd_same
            have hIs : Ex I' I5 := (x3.trans x4).trans x5
            refine ⟨acc, hH5, Nat.lt_of_lt_of_le (by rw [dpA_len hacc]; exact Nat.lt_of_le_of_lt hlen hj) (Nat.le_trans hn (by decide)), I5, wipeE e5 vs, acc ++ [y], as ++ [c], ?_, x'.trans hIs, dpA_app (dpA_mono hIs hacc) (.cons hy .nil), by rw [List.length_append, List.length_singleton]; omega, wipeE_idem _ _, p5⟩
            have z := (E5.guardPut (o' := .lst (acc ++ [y])) h0D).wiped vs
            rw [hw2] at z
            exact z
          | false =>
            rw [if_neg Bool.false_ne_true] at hb ⊢
            have z := E4.wiped vs
            rw [hw2] at z
            exact ⟨I4, wipeE e4 vs, acc, as, z, x'.trans (x3.trans x4), dpA_mono (x3.trans x4) hacc, by omega, wipeE_idem _ _, hb⟩
      rcases hx with ⟨eH, hxd⟩ | ⟨T, o, hT, eH, hxd⟩
      · subst eH
        exact go I' (Ex.refl _) E' hxd
      · subst eH
        exact go _ (Ex.new (E'.ih.back hT)) (E'.newD hT) hxd
    · obtain ⟨hI, hH, E2, hc⟩ := EnvI.unguardF E' hF h0D
      refine q D I' H' acc as e E2.unwiped (x1.trans x') hF h0D hI hH hacc (fun i y h cy => ?_) (hdone as e p)
      have z := hc i y h cy
      obtain ⟨v, h1, _⟩ := E2.at_ i y h
      rw [h1] at z
      rw [(wipe_some h1).1]
      exact z
def lcA (g : Xg) (c : Xt) (x : Xe) (vs : List Nat) : List PyData → AE → Option (List PyData × AE)
  | [], a => some ([], a)
  | d :: ds, a => (g.ev d a).bind fun a1 => (c.ev a1).bind fun p => if p.1 = true then (x.ev p.2).bind fun q => (lcA g c x vs ds (wp q.2 vs)).bind fun r => some (q.1 :: r.1, r.2) else lcA g c x vs ds (wp p.2 vs)
theorem Tgt.imp {K : PySem.W.Frag} {g : TG} {d : PyData} {env : Env} {R R' : Env → Prop} (h : Tgt K g d env R) (k : ∀ e, R e → R' e) : Tgt K g d env R' := fun F I0 I σ H v E hd Q q => h F I0 I σ H v E hd Q fun σ' e' E' r l => q σ' e' E' (k e' r) l
/-- [x for g in it if c] -/
def Xf.lc (it : Xi) (g : Xg) (c : Xt) (x : Xe) (vs : List Nat) (hg : ∀ G, OwnG (g.t G) vs) : Xf where
  t G := tLc (it.t G) (g.t G) (c.t G) (x.t G) vs
  ev a := (it.ev a).bind fun p => if p.1.length ≤ 50000 then lcA g c x vs p.1 (wp p.2 vs) else none
  ok G a d a' h p0 e he := by
    obtain ⟨⟨ds, a1⟩, h1, h⟩ := Option.bind_eq_some_iff.mp h
    split at h
    · rename_i hl
      refine evF_lc (it.ok G a _ _ h1 p0 e he) (hg G) fun ds' e0 ⟨ed, ha⟩ => ?_
      subst ed
      refine ⟨hl, fun j as e => ∃ a2 rest, Ab p0 e a2 ∧ lcA g c x vs (ds'.drop j) a2 = some (rest, a') ∧ as ++ rest = d, ⟨_, d, ha.wp vs, h, rfl⟩, fun j y as e hj ⟨a2, rest, h2, h3, h4⟩ => ?_, fun as e ⟨a2, rest, h2, h3, h4⟩ => ?_⟩
      · have hlt := (List.getElem?_eq_some_iff.mp hj).1
        have hy : ds'[j] = y := (List.getElem?_eq_some_iff.mp hj).2
        rw [List.drop_eq_getElem_cons hlt, hy, lcA] at h3
        obtain ⟨a3, g1, h3⟩ := Option.bind_eq_some_iff.mp h3
        obtain ⟨⟨b, a4⟩, g2, h3⟩ := Option.bind_eq_some_iff.mp h3
        refine Tgt.imp (g.ok G _ _ _ g1 p0 e h2) fun e3 h5 => ?_
        refine (c.ok G _ _ _ g2 p0 e3 h5).imp fun b' e4 ⟨eb, h6⟩ => ?_
        subst eb
        split at h3
        · rename_i hb
          rw [if_pos hb]
          obtain ⟨⟨z, a5⟩, g3, h3⟩ := Option.bind_eq_some_iff.mp h3
          obtain ⟨⟨rs, a6⟩, g4, h3⟩ := Option.bind_eq_some_iff.mp h3
          cases h3
          refine (x.ok G _ _ _ g3 p0 e4 h6).imp fun z' e5 ⟨ez, h7⟩ => ?_
          subst ez
          exact ⟨_, rs, h7.wp vs, g4, by rw [List.append_assoc]; exact h4⟩
        · rename_i hb
          rw [if_neg hb]
          exact ⟨_, rest, h6.wp vs, h3, h4⟩
      · rw [List.drop_length, lcA] at h3
        cases h3
        exact ⟨by rw [← h4, List.append_nil], h2⟩
    · cases h
/-! ### calls of defs -/
inductive A1 where
  | no
  | own (bs : List PyData)
  | seq (ns : List Int)
inductive R1 where
  | dat (d : PyData)
  | fr (ds : List PyData)
abbrev Fn := A1 → List PyData → Option (R1 × List PyData)
def HdIn (K : PySem.W.Frag) (I H : Hp) (pw : Option Addr) (vs xs : List V) : A1 → Prop
  | .no => pw = none ∧ vs = xs
  | .own bs => ∃ p ws, pw = some p ∧ vs = .ref p :: xs ∧ H p = some (.lst ws) ∧ DqAll K I ws bs ∧ I p = none
  | .seq ns => pw = none ∧ ∃ a, vs = .ref a :: xs ∧ SqL K I a (ns.map V.int)
def ResOut (K : PySem.W.Frag) (H I' H' : Hp) (v : V) : R1 → Prop
  | .dat d => Dq K I' v d
  | .fr ds => ∃ D xs, v = .ref D ∧ H D = none ∧ I' D = none ∧ H' D = some (.lst xs) ∧ DqAll K I' xs ds
def spG (K : PySem.W.Frag) (φ : Fn) : Sp := fun vs H Q _ => ∃ (A : A1) (pw : Option Addr) (xs : List V) (I : Hp) (ds : List PyData), HdIn K I H pw vs xs A ∧ Ex I H ∧ DqAll K I xs ds ∧ (φ A ds).isSome = true ∧
  ∀ (v : V) (I' H' : Hp) (r : R1) (bs' : List PyData), φ A ds = some (r, bs') → Ex I I' → Ex I' H' → (∀ a o, pw ≠ some a → H a = some o → H' a = some o) → (∀ a, H a ≠ none → I a = none → I' a = none) →
    (∀ p, pw = some p → ∃ ws', H' p = some (.lst ws') ∧ DqAll K I' ws' bs') → ResOut K H I' H' v r → Q v H'
/-- f(xs) -/
def Xe.call (φ : Fn) (xs : Xa) : Xe where
  t g := tCall (spG g.K φ) [] L2.E0 (xs.t g)
  ev a := (xs.ev a).bind fun p => match φ .no p.1 with
    | some (.dat d, _) => some (d, p.2)
    | _ => none
  ok g a d a' h p0 e he F I0 I σ H E Q q := by
    obtain ⟨⟨d1, a1⟩, h1, h⟩ := Option.bind_eq_some_iff.mp h
    refine xs.ok g a _ _ h1 p0 e he F I0 I σ H E _ fun vs I1 H1 ds e1 E1 x1 hvs ⟨ed, ha⟩ => ?_
    subst ed
    dsimp only at h
    split at h
    · rename_i d2 b2 hφ
      cases h
      rw [List.append_nil]
      refine ⟨.no, none, vs, I1, _, ⟨rfl, rfl⟩, E1.ih, hvs, by rw [hφ]; rfl, fun v I2 H2 r bs' hr a1 a2 a3 a4 _ hres => ?_⟩
      rw [hφ] at hr
      cases hr
      exact q v I2 H2 _ e1 (E1.called a1 a2 (fun a o => a3 a o (fun z => nomatch z)) a4) (x1.trans a1) hres ⟨rfl, ha⟩
    · cases h
/-- f(xs), a new list -/
def Xf.call (φ : Fn) (xs : Xa) : Xf where
  t g := tCall (spG g.K φ) [] L2.E0 (xs.t g)
  ev a := (xs.ev a).bind fun p => match φ .no p.1 with
    | some (.fr d, _) => some (d, p.2)
    | _ => none
  ok g a d a' h p0 e he F I0 I σ H E Q q := by
    obtain ⟨⟨d1, a1⟩, h1, h⟩ := Option.bind_eq_some_iff.mp h
    refine xs.ok g a _ _ h1 p0 e he F I0 I σ H E _ fun vs I1 H1 ds e1 E1 x1 hvs ⟨ed, ha⟩ => ?_
    subst ed
    dsimp only at h
    split at h
    · rename_i d2 b2 hφ
      cases h
      rw [List.append_nil]
      refine ⟨.no, none, vs, I1, _, ⟨rfl, rfl⟩, E1.ih, hvs, by rw [hφ]; rfl, fun v I2 H2 r bs' hr a1 a2 a3 a4 _ hres => ?_⟩
      rw [hφ] at hr
      cases hr
      obtain ⟨D, ys, rfl, hD, hI, hH, hd⟩ := hres
      exact q D I2 H2 ys _ e1 (E1.called a1 a2 (fun a o => a3 a o (fun z => nomatch z)) a4) (x1.trans a1) (E1.fh.back hD) ((E1.oi.trans E1.ih).back hD) hI hH hd (EnvI.noCell E1 hD) ⟨rfl, ha⟩
    · cases h
/-- f(x, xs), x a list of one's own that f may change -/
def Xe.callM (φ : Fn) (i : Nat) (xs : Xa) : Xe where
  t g := tCall (spG g.K φ) [] L2.E0 (tCons (tVar i) (xs.t g))
  ev a := match gt a i with
    | some (.lst _ _) => (xs.ev a).bind fun p => match gt p.2 i with
      | some (.lst b bs) => match φ (.own bs) p.1 with
        | some (.dat d, bs') => some (d, st p.2 i (some (.lst b bs')))
        | _ => none
      | _ => none
    | _ => none
  ok g a d a' h p0 e he F I0 I σ H E Q q := by
    split at h
    · rename_i _ b0 hb0
      obtain ⟨⟨d1, a1⟩, h1, h⟩ := Option.bind_eq_some_iff.mp h
      obtain ⟨q0, hp0, _⟩ := he.lst hb0
      obtain ⟨v0, hs0, ev0, _⟩ := E.at_ i _ hp0
      subst ev0
      refine ⟨.ref q0, hs0, xs.ok g a _ _ h1 p0 e he F I0 I σ H E _ fun vs I1 H1 ds e1 E1 x1 hvs ⟨ed, ha⟩ => ?_⟩
      subst ed
      dsimp only at h
      split at h
      · rename_i bb bs hbs
        split at h
        · rename_i d2 bs' hφ
          cases h
          obtain ⟨p, hp, hp0'⟩ := ha.lst hbs
          obtain ⟨v1, hs1, ev1, hF, hI, ws, hH, hd⟩ := E1.at_ i _ hp
          subst ev1
          rw [hs0] at hs1
          cases hs1
          rw [List.append_nil]
          refine ⟨.own bs, some q0, vs, I1, _, ⟨q0, ws, rfl, rfl, hH, hd, hI⟩, E1.ih, hvs, by rw [hφ]; rfl, fun v I2 H2 r cs hr a1 a2 a3 a4 a5 hres => ?_⟩
          rw [hφ] at hr
          cases hr
          obtain ⟨ws', hH', hd'⟩ := a5 q0 rfl
          refine q v I2 H2 _ _ (E1.calledC (y := .lst q0 _) hp rfl hs0 hF a1 a2 (fun a o ha => a3 a o fun z => ha (by cases z; rfl)) a4 ⟨rfl, hF, a4 q0 (by rw [hH]; exact fun z => nomatch z) hI, ws', hH', hd'⟩) (x1.trans a1) hres ⟨rfl, ha.set i (.lst _ _ _ hp0')⟩
        · cases h
      · cases h
    · cases h
/-- f(script, xs) -/
def Xe.callS (φ : Fn) (i : Nat) (xs : Xa) : Xe where
  t g := tCall (spG g.K φ) [] L2.E0 (tCons (tVar i) (xs.t g))
  ev a := match gt a i with
    | some (.seq ns) => (xs.ev a).bind fun p => match φ (.seq ns) p.1 with
      | some (.dat d, _) => some (d, p.2)
      | _ => none
    | _ => none
  ok g a d a' h p0 e he F I0 I σ H E Q q := by
    split at h
    · rename_i ns hns
      obtain ⟨⟨d1, a1⟩, h1, h⟩ := Option.bind_eq_some_iff.mp h
      obtain ⟨v0, hs0, ⟨b, ev0, hsq⟩⟩ := E.at_ i _ (he.seq hns)
      subst ev0
      refine ⟨.ref b, hs0, xs.ok g a _ _ h1 p0 e he F I0 I σ H E _ fun vs I1 H1 ds e1 E1 x1 hvs ⟨ed, ha⟩ => ?_⟩
      subst ed
      dsimp only at h
      split at h
      · rename_i d2 bs' hφ
        cases h
        rw [List.append_nil]
        refine ⟨.seq ns, none, vs, I1, _, ⟨rfl, b, rfl, x1.l hsq⟩, E1.ih, hvs, by rw [hφ]; rfl, fun v I2 H2 r cs hr a1 a2 a3 a4 a5 hres => ?_⟩
        rw [hφ] at hr
        cases hr
        exact q v I2 H2 _ e1 (E1.called a1 a2 (fun a o => a3 a o (fun z => nomatch z)) a4) (x1.trans a1) hres ⟨rfl, ha⟩
      · cases h
    · cases h
def Xf.callS (φ : Fn) (i : Nat) (xs : Xa) : Xf where
  t g := tCall (spG g.K φ) [] L2.E0 (tCons (tVar i) (xs.t g))
  ev a := match gt a i with
    | some (.seq ns) => (xs.ev a).bind fun p => match φ (.seq ns) p.1 with
      | some (.fr d, _) => some (d, p.2)
      | _ => none
    | _ => none
  ok g a d a' h p0 e he F I0 I σ H E Q q := by
    split at h
    · rename_i ns hns
      obtain ⟨⟨d1, a1⟩, h1, h⟩ := Option.bind_eq_some_iff.mp h
      obtain ⟨v0, hs0, ⟨b, ev0, hsq⟩⟩ := E.at_ i _ (he.seq hns)
      subst ev0
      refine ⟨.ref b, hs0, xs.ok g a _ _ h1 p0 e he F I0 I σ H E _ fun vs I1 H1 ds e1 E1 x1 hvs ⟨ed, ha⟩ => ?_⟩
      subst ed
      dsimp only at h
      split at h
      · rename_i d2 bs' hφ
        cases h
        rw [List.append_nil]
        refine ⟨.seq ns, none, vs, I1, _, ⟨rfl, b, rfl, x1.l hsq⟩, E1.ih, hvs, by rw [hφ]; rfl, fun v I2 H2 r cs hr a1 a2 a3 a4 a5 hres => ?_⟩
        rw [hφ] at hr
        cases hr
        obtain ⟨D, ys, rfl, hD, hI, hH, hd⟩ := hres
        exact q D I2 H2 ys _ e1 (E1.called a1 a2 (fun a o => a3 a o (fun z => nomatch z)) a4) (x1.trans a1) (E1.fh.back hD) ((E1.oi.trans E1.ih).back hD) hI hH hd (EnvI.noCell E1 hD) ⟨rfl, ha⟩
      · cases h
    · cases h
end Px

set_option Elab.async false
set_option linter.all false
set_option autoImplicit false
set_option maxRecDepth 100000
set_option maxHeartbeats 4000000
/-! Statements, bodies of defs. -/
namespace Px
open PySem PySem.Spec PyProof.Rows L2 Lw
inductive Out where
  | nx (a : AE)
  | rt (d : PyData) (a : AE)
  | rf (ds : List PyData) (a : AE)
  | bk (a : AE)
  | ct (a : AE)
structure Pst where
  nx : Env → Prop
  rt : PyData → Env → Prop
  rf : List PyData → Env → Prop
  bk : Env → Prop
  ct : Env → Prop
structure AnsX (K : PySem.W.Frag) (F I0 : Hp) (D : Ends) (P : Pst) : Prop where
  nx : ∀ (I' : Hp) (σ' : L2.St) (H' : Hp) (e : Env), EnvI K F I0 I' σ' H' e → P.nx e → D.nx σ' H'
  rt : ∀ (v : V) (I' : Hp) (σ' : L2.St) (H' : Hp) (d : PyData) (e : Env), EnvI K F I0 I' σ' H' e → Dq K I' v d → P.rt d e → D.rt v H'
  rf : ∀ (a : Addr) (I' : Hp) (σ' : L2.St) (H' : Hp) (xs : List V) (ds : List PyData) (e : Env), EnvI K F I0 I' σ' H' e → F a = none → I0 a = none → I' a = none → H' a = some (.lst xs) → DqAll K I' xs ds → (∀ (j : Nat) (y : Lw.Val), e[j]? = some (some y) → isCell y = true → σ'[j]? ≠ some (some (.ref a))) → P.rf ds e → D.rt (.ref a) H'
  bk : ∀ (I' : Hp) (σ' : L2.St) (H' : Hp) (e : Env), EnvI K F I0 I' σ' H' e → P.bk e → D.bk σ' H'
  ct : ∀ (I' : Hp) (σ' : L2.St) (H' : Hp) (e : Env), EnvI K F I0 I' σ' H' e → P.ct e → D.ct σ' H'
def RunX (K : PySem.W.Frag) (ts : TS) (env : Env) (P : Pst) : Prop :=
  ∀ (F I0 I : Hp) (σ : L2.St) (H : Hp) (D : Ends), EnvI K F I0 I σ H env → AnsX K F I0 D P → ts D σ H
def pst (p0 : Addr) (o : Out) : Pst := ⟨fun e => ∃ a, o = .nx a ∧ Ab p0 e a, fun d e => ∃ a, o = .rt d a ∧ Ab p0 e a, fun ds e => ∃ a, o = .rf ds a ∧ Ab p0 e a, fun e => ∃ a, o = .bk a ∧ Ab p0 e a, fun e => ∃ a, o = .ct a ∧ Ab p0 e a⟩
structure Xs where
  t : Gx → TS
  run : AE → Option Out
  ok : ∀ g a o, run a = some o → ∀ p0 e, Ab p0 e a → RunX g.K (t g) e (pst p0 o)
/-- a statement of Lw's logic that ends by going on -/
theorem runX_of {K : PySem.W.Frag} {ts : TS} {env : Env} {P : Env → Prop} (h : Lw.Run K ts env ⟨P, fun _ _ => False, fun _ => False, fun _ => False⟩) {p0 : Addr} {o : Out} (k : ∀ e, P e → (pst p0 o).nx e) : RunX K ts env (pst p0 o) := fun F I0 I σ H D E A =>
  h F I0 I σ H D E ⟨fun I' σ' H' e E' p => A.nx I' σ' H' e E' (k e p), fun _ _ _ _ _ _ _ _ p => p.elim, fun _ _ _ _ _ p => p.elim, fun _ _ _ _ _ p => p.elim⟩
def Xs.next : Xs where
  t _ := tNext
  run a := some (.nx a)
  ok g a o h p0 e he F I0 I σ H D E A := by
    cases h
    exact A.nx I σ H e E ⟨a, rfl, he⟩
def Xs.never : Xs where
  t _ := tNo
  run a := none
  ok g a o h p0 e he := by cases h
def Xs.brk : Xs where
  t _ := tBreak
  run a := some (.bk a)
  ok g a o h p0 e he F I0 I σ H D E A := by
    cases h
    exact A.bk I σ H e E ⟨a, rfl, he⟩
def Xs.cont : Xs where
  t _ := tCont
  run a := some (.ct a)
  ok g a o h p0 e he F I0 I σ H D E A := by
    cases h
    exact A.ct I σ H e E ⟨a, rfl, he⟩
def Xs.seq (x y : Xs) : Xs where
  t g := tSeq (x.t g) (y.t g)
  run a := (x.run a).bind fun o => match o with
    | .nx a' => y.run a'
    | o => some o
  ok g a o h p0 e he F I0 I σ H D E A := by
    obtain ⟨o1, h1, h⟩ := Option.bind_eq_some_iff.mp h
    refine x.ok g a o1 h1 p0 e he F I0 I σ H _ E ⟨?_, ?_, ?_, ?_, ?_⟩
    · rintro I' σ' H' e' E' ⟨a', rfl, ha⟩
      exact y.ok g a' o h p0 e' ha F I0 I' σ' H' D E' A
    · rintro v I' σ' H' d e' E' hd ⟨a', rfl, ha⟩
      cases h
      exact A.rt v I' σ' H' d e' E' hd ⟨a', rfl, ha⟩
    · rintro b I' σ' H' xs ds e' E' f1 f2 f3 f4 f5 f6 ⟨a', rfl, ha⟩
      cases h
      exact A.rf b I' σ' H' xs ds e' E' f1 f2 f3 f4 f5 f6 ⟨a', rfl, ha⟩
    · rintro I' σ' H' e' E' ⟨a', rfl, ha⟩
      cases h
      exact A.bk I' σ' H' e' E' ⟨a', rfl, ha⟩
    · rintro I' σ' H' e' E' ⟨a', rfl, ha⟩
      cases h
      exact A.ct I' σ' H' e' E' ⟨a', rfl, ha⟩
def Xs.set (i : Nat) (x : Xe) : Xs where
  t g := tAsg (x.t g) (gName i)
  run a := (x.ev a).bind fun p => some (.nx (st p.2 i (some (.dat p.1))))
  ok g a o h p0 e he F I0 I σ H D E A := by
    obtain ⟨⟨d1, a1⟩, h1, h⟩ := Option.bind_eq_some_iff.mp h
    cases h
    refine x.ok g a _ _ h1 p0 e he F I0 I σ H E _ fun v I' H' d e' E' _ hd ⟨ed, ha⟩ => ?_
    subst ed
    exact A.nx I' _ H' _ (E'.setD i hd) ⟨_, rfl, ha.set i (.dat _)⟩
/-- x = a new list, one's own -/
def Xs.setF (i : Nat) (x : Xf) : Xs where
  t g := tAsg (x.t g) (gName i)
  run a := (x.ev a).bind fun p => some (.nx (st p.2 i (some (.lst false p.1))))
  ok g a o h p0 e he F I0 I σ H D E A := by
    obtain ⟨⟨d1, a1⟩, h1, h⟩ := Option.bind_eq_some_iff.mp h
    cases h
    refine x.ok g a _ _ h1 p0 e he F I0 I σ H E _ fun b I' H' xs ds e' E' _ hF _ hI hH hd hc ⟨ed, ha⟩ => ?_
    subst ed
    exact A.nx I' _ H' _ (EnvI.setOwn E' i hc (x := .lst b _) ⟨rfl, hF, hI, xs, hH, hd⟩) ⟨_, rfl, ha.set i (.lst _ _ _ (fun z => nomatch z))⟩
def Xs.asg (g : Xg) (x : Xe) : Xs where
  t G := tAsg (x.t G) (g.t G)
  run a := (x.ev a).bind fun p => (g.ev p.1 p.2).bind fun a' => some (.nx a')
  ok G a o h p0 e he F I0 I σ H D E A := by
    obtain ⟨⟨d1, a1⟩, h1, h⟩ := Option.bind_eq_some_iff.mp h
    obtain ⟨a2, h2, h⟩ := Option.bind_eq_some_iff.mp h
    cases h
    refine x.ok G a _ _ h1 p0 e he F I0 I σ H E _ fun v I' H' d e' E' _ hd ⟨ed, ha⟩ => ?_
    subst ed
    exact g.ok G _ _ _ h2 p0 e' ha F I0 I' σ H' v E' hd _ fun σ' e2 E2 ha2 _ => A.nx I' σ' H' e2 E2 ⟨_, rfl, ha2⟩
def Xs.ret (x : Xe) : Xs where
  t g := tRet (x.t g)
  run a := (x.ev a).bind fun p => some (.rt p.1 p.2)
  ok g a o h p0 e he F I0 I σ H D E A := by
    obtain ⟨⟨d1, a1⟩, h1, h⟩ := Option.bind_eq_some_iff.mp h
    cases h
    refine x.ok g a _ _ h1 p0 e he F I0 I σ H E _ fun v I' H' d e' E' _ hd ⟨ed, ha⟩ => ?_
    subst ed
    exact A.rt v I' σ H' _ e' E' hd ⟨_, rfl, ha⟩
def Xs.retN : Xs where
  t _ := tRetN
  run a := some (.rt .none a)
  ok g a o h p0 e he F I0 I σ H D E A := by
    cases h
    exact A.rt .non I σ H .none e E .non ⟨a, rfl, he⟩
/-- return of a new list -/
def Xs.retF (x : Xf) : Xs where
  t g := tRet (x.t g)
  run a := (x.ev a).bind fun p => some (.rf p.1 p.2)
  ok g a o h p0 e he F I0 I σ H D E A := by
    obtain ⟨⟨d1, a1⟩, h1, h⟩ := Option.bind_eq_some_iff.mp h
    cases h
    refine x.ok g a _ _ h1 p0 e he F I0 I σ H E _ fun b I' H' xs ds e' E' _ hF h0 hI hH hd hc ⟨ed, ha⟩ => ?_
    subst ed
    exact A.rf b I' σ H' xs _ e' E' hF h0 hI hH hd hc ⟨_, rfl, ha⟩
def Xs.ifS (c : Xt) (x y : Xs) : Xs where
  t g := tIfS (c.t g) (x.t g) (y.t g)
  run a := (c.ev a).bind fun p => if p.1 = true then x.run p.2 else y.run p.2
  ok g a o h p0 e he F I0 I σ H D E A := by
    obtain ⟨⟨d1, a1⟩, h1, h⟩ := Option.bind_eq_some_iff.mp h
    refine c.ok g a _ _ h1 p0 e he F I0 I σ H E _ fun I' H' b e' E' _ ⟨eb, ha⟩ => ?_
    subst eb
    split at h
    · rename_i hb
      rw [if_pos hb]
      exact x.ok g _ _ h p0 e' ha F I0 I' σ H' D E' A
    · rename_i hb
      rw [if_neg hb]
      exact y.ok g _ _ h p0 e' ha F I0 I' σ H' D E' A
def Xs.drop (x : Xe) : Xs where
  t g := tDrop (x.t g)
  run a := (x.ev a).bind fun p => some (.nx p.2)
  ok g a o h p0 e he F I0 I σ H D E A := by
    obtain ⟨⟨d1, a1⟩, h1, h⟩ := Option.bind_eq_some_iff.mp h
    cases h
    refine x.ok g a _ _ h1 p0 e he F I0 I σ H E _ fun v I' H' d e' E' _ hd ⟨ed, ha⟩ => ?_
    exact A.nx I' σ H' e' E' ⟨_, rfl, ha⟩
def Xs.aug (i : Nat) (p : Xo) (x : Xe) : Xs where
  t g := tAug i (x.t g) (p.r g)
  run a := match gt a i with
    | some (.dat b) => (x.ev a).bind fun q => (p.f b q.1).bind fun c => some (.nx (st q.2 i (some (.dat c))))
    | _ => none
  ok g a o h p0 e he F I0 I σ H D E A := by
    split at h
    · rename_i b hb
      obtain ⟨⟨d1, a1⟩, h1, h⟩ := Option.bind_eq_some_iff.mp h
      obtain ⟨c, h2, h⟩ := Option.bind_eq_some_iff.mp h
      cases h
      obtain ⟨v, hs, hv⟩ := E.at_ i _ (he.dat hb)
      refine ⟨v, hs, x.ok g a _ _ h1 p0 e he F I0 I σ H E _ fun w I' H' d e' E' x1 hd ⟨ed, ha⟩ => ?_⟩
      subst ed
      exact p.ok g _ _ _ h2 I' H' v w E'.ih (dp_mono x1 hv) hd _ (fun z hz => A.nx I' _ H' _ (E'.setD i hz) ⟨_, rfl, ha.set i (.dat _)⟩) fun p o hp hz => A.nx _ _ _ _ ((E'.newD hp).setD i hz) ⟨_, rfl, ha.set i (.dat _)⟩
    · cases h
/-- xs.append(x), xs one's own -/
def Xs.app (i : Nat) (x : Xe) : Xs where
  t g := tDrop (tBM g.K "list" rAppend (tVar i) (tCons (x.t g) tNil))
  run a := match gt a i with
    | some (.lst _ _) => (x.ev a).bind fun p => match gt p.2 i with
      | some (.lst b ds) => if ds.length < 100000 then some (.nx (st p.2 i (some (.lst b (ds ++ [p.1]))))) else none
      | _ => none
    | _ => none
  ok g a o h p0 e he := by
    split at h
    · rename_i _ d0 h0
      obtain ⟨⟨d1, a1⟩, h1, h⟩ := Option.bind_eq_some_iff.mp h
      dsimp only at h
      split at h
      · rename_i b ds hds
        split at h
        · rename_i hl
          cases h
          obtain ⟨q0, hp0, _⟩ := he.lst h0
          refine runX_of (P := fun e' => Ab p0 e' (st a1 i (some (.lst b (ds ++ [d1]))))) (Lw.run_app ((x.ok g a _ _ h1 p0 e he).imp fun d e' ⟨ed, ha⟩ => ?_) ⟨q0, _, hp0⟩) fun e' h => ⟨_, rfl, h⟩
          subst ed
          obtain ⟨p, hp, hq⟩ := ha.lst hds
          exact ⟨p, ds, hp, hl, ha.set i (.lst _ _ _ hq)⟩
        · cases h
      · cases h
    · cases h
/-- xs[k] = x, xs one's own -/
def Xs.setI (i : Nat) (k x : Xe) : Xs where
  t g := tAsg (x.t g) (gSub (tVar i) (k.t g) rSetL)
  run a := (x.ev a).bind fun p => (k.ev p.2).bind fun q => match gt p.2 i, gt q.2 i, q.1 with
    | some (.lst _ _), some (.lst b ds), .int j => if 0 ≤ j ∧ j.toNat < ds.length then some (.nx (st q.2 i (some (.lst b (ds.set j.toNat p.1))))) else none
    | _, _, _ => none
  ok g a o h p0 e he F I0 I σ H D E A := by
    obtain ⟨⟨d1, a1⟩, h1, h⟩ := Option.bind_eq_some_iff.mp h
    obtain ⟨⟨d2, a2⟩, h2, h⟩ := Option.bind_eq_some_iff.mp h
    dsimp only at h
    split at h
    · rename_i _ ds0 b ds j g1 g2
      split at h
      · rename_i hj
        cases h
        refine x.ok g a _ _ h1 p0 e he F I0 I σ H E _ fun y I1 H1 d e1 E1 x1 hy ⟨ed, ha⟩ => ?_
        subst ed
        obtain ⟨q0, hp0, _⟩ := ha.lst g1
        obtain ⟨v, hs, ev0, _⟩ := E1.at_ i _ hp0
        subst ev0
        refine ⟨.ref q0, hs, k.ok g _ _ _ h2 p0 e1 ha F I0 I1 σ H1 E1 _ fun kk I2 H2 kd e2 E2 x2 hk ⟨ek, ha2⟩ => ?_⟩
        subst ek
        cases dp_int hk
        obtain ⟨p, hp, hq⟩ := ha2.lst g2
        obtain ⟨v', hs', ev', hf', hi', xs', hh', hd'⟩ := E2.at_ i _ hp
        subst ev'
        rw [hs] at hs'
        cases hs'
        have hl := dpA_len hd'
        obtain ⟨n, rfl⟩ : ∃ n : Nat, j = n := ⟨j.toNat, by omega⟩
        have hn : n < ds.length := hj.2
        refine ⟨q0, xs', (n : Int), n, rfl, rfl, hh', ?_, ?_⟩
        · unfold ixN
          rw [if_pos (by omega), if_pos (by omega)]
          simp
        · exact A.nx I2 σ _ _ (E2.putC (y := .lst q0 (ds.set n _)) hp rfl hs hi' hf' ⟨rfl, hf', hi', _, upd_same, dpA_set n hd' (dp_mono x2 hy)⟩) ⟨_, rfl, ha2.set i (.lst _ _ _ hq)⟩
      · cases h
    · cases h
/-! loops -/
def forA (g : Xg) (b : Xs) (w : List Nat) : List PyData → AE → Option Out
  | [], a => some (.nx a)
  | d :: ds, a => (g.ev d a).bind fun a1 => (b.run a1).bind fun o => match o with
    | .nx a2 => forA g b w ds (wp a2 w)
    | .ct a2 => forA g b w ds (wp a2 w)
    | .bk a2 => some (.nx a2)
    | .rt d a2 => some (.rt d a2)
    | .rf d a2 => some (.rf d a2)
/-- a turn's answers -/
theorem runX_for {K : PySem.W.Frag} {wi : TI} {g : TG} {t : TS} {env : Env} {P : Pst} (hw : EvWE K wi env fun ds e0 => ∃ In : Nat → Env → Prop, In 0 e0 ∧ (∀ (j : Nat) (d : PyData) (e : Env), ds[j]? = some d → In j e → Tgt K g d e fun e' => RunX K t e' ⟨In (j + 1), P.rt, P.rf, P.nx, In (j + 1)⟩) ∧ ∀ e, In ds.length e → P.nx e) : RunX K (tFor wi g t) env P := fun F I0 I σ H D E A =>
  hw F I0 I σ H E _ fun J I1 H1 G Y ds e0 ⟨In, h0, hs, hd⟩ E1 x1 W hG hY => by
    refine for_it W (fun j σ' H' => ∃ I' e, EnvI K F I0 I' σ' H' e ∧ Ex I1 I' ∧ In j e) ⟨I1, e0, E1, Ex.refl _, h0⟩ (fun j σ' H' _ ⟨I', e, E', x', _⟩ => hG H' (x'.trans E'.ih)) (fun j x σ' H' H3 hj hP hy => ?_) (fun σ' H' ⟨I', e, E', _, p⟩ => A.nx I' σ' H' e E' (hd e p))
    obtain ⟨I', e, E', x', p⟩ := hP
    obtain ⟨d, hdj, hx⟩ := hY j H' x H3 I' hj x' E'.ih hy
    have go : ∀ I3, Ex I' I3 → EnvI K F I0 I3 σ' H3 e → Dq K I3 x d → g x σ' H3 fun σ2 H2 => t { D with nx := fun σ' H' => ∃ I' e, EnvI K F I0 I' σ' H' e ∧ Ex I1 I' ∧ In (j + 1) e, ct := fun σ' H' => ∃ I' e, EnvI K F I0 I' σ' H' e ∧ Ex I1 I' ∧ In (j + 1) e, bk := D.nx } σ2 H2 := fun I3 x3 E3 hxd =>
      hs j d e hdj p F I0 I3 σ' H3 x E3 hxd _ fun σ2 e2 E2 r _ => by
        have E2' : EnvI K F I3 I3 σ2 H3 e2 := ⟨E2.fh, Ex.refl _, E2.ih, fun a h1 h2 => h2, E2.len, E2.at_, E2.ne⟩
        have back : ∀ {I4 : Hp} {σ4 : L2.St} {H4 : Hp} {e4 : Env}, EnvI K F I3 I4 σ4 H4 e4 → EnvI K F I0 I4 σ4 H4 e4 := fun {I4 σ4 H4 e4} E4 => ⟨E4.fh, E2.oi.trans E4.oi, E4.ih, fun a h1 h2 => E4.fr a h1 (E2.fr a h1 h2), E4.len, E4.at_, E4.ne⟩
        exact r F I3 I3 σ2 H3 _ E2' ⟨fun I4 σ4 H4 e4 E4 q => ⟨I4, e4, back E4, (x'.trans x3).trans E4.oi, q⟩, fun v I4 σ4 H4 d4 e4 E4 hd4 q => A.rt v I4 σ4 H4 d4 e4 (back E4) hd4 q, fun b I4 σ4 H4 xs ds e4 E4 f1 f2 f3 f4 f5 f6 q => A.rf b I4 σ4 H4 xs ds e4 (back E4) f1 (E2.oi.back f2) f3 f4 f5 f6 q, fun I4 σ4 H4 e4 E4 q => A.nx I4 σ4 H4 e4 (back E4) q, fun I4 σ4 H4 e4 E4 q => ⟨I4, e4, back E4, (x'.trans x3).trans E4.oi, q⟩⟩
    rcases hx with ⟨eH, hxd⟩ | ⟨T, o, hT, eH, hxd⟩
    · subst eH
      exact go I' (Ex.refl _) E' hxd
    · subst eH
      exact go _ (Ex.new (E'.ih.back hT)) (E'.newD hT) hxd
def Xs.forS (it : Xi) (g : Xg) (b : Xs) (w : List Nat) : Xs where
  t G := tFor (it.t G) (g.t G) (b.t G)
  run a := (it.ev a).bind fun p => forA g b w p.1 (wp p.2 w)
  ok G a o h p0 e he := by
    obtain ⟨⟨ds, a1⟩, h1, h⟩ := Option.bind_eq_some_iff.mp h
    refine runX_for ((it.ok G a _ _ h1 p0 e he).imp fun ds' e0 ⟨ed, ha⟩ => ?_)
    subst ed
    refine ⟨fun j e => ∃ a2, Ab p0 e a2 ∧ forA g b w (ds'.drop j) a2 = some o ∨ (pst p0 o).nx e ∧ j = ds'.length, ⟨_, .inl ⟨ha.wp' w, h⟩⟩, fun j y e hj hI => ?_, fun e hI => ?_⟩
    · have hlt := (List.getElem?_eq_some_iff.mp hj).1
      have hy : ds'[j] = y := (List.getElem?_eq_some_iff.mp hj).2
      obtain ⟨a2, ⟨h2, h3⟩ | ⟨_, h3⟩⟩ := hI
      · rw [List.drop_eq_getElem_cons hlt, hy, forA] at h3
        obtain ⟨a3, g1, h3⟩ := Option.bind_eq_some_iff.mp h3
        obtain ⟨o2, g2, h3⟩ := Option.bind_eq_some_iff.mp h3
        refine Tgt.imp (g.ok G _ _ _ g1 p0 e h2) fun e3 h5 => ?_
        refine fun F I0 I σ H D E A => b.ok G _ _ g2 p0 e3 h5 F I0 I σ H D E ⟨?_, ?_, ?_, ?_, ?_⟩
        · rintro I' σ' H' e' E' ⟨a4, rfl, h6⟩
          exact A.nx I' σ' H' e' E' ⟨_, .inl ⟨h6.wp' w, h3⟩⟩
        · rintro v I' σ' H' d e' E' hd ⟨a4, rfl, h6⟩
          cases h3
          exact A.rt v I' σ' H' d e' E' hd ⟨_, rfl, h6⟩
        · rintro c I' σ' H' xs ds e' E' f1 f2 f3 f4 f5 f6 ⟨a4, rfl, h6⟩
          cases h3
          exact A.rf c I' σ' H' xs ds e' E' f1 f2 f3 f4 f5 f6 ⟨_, rfl, h6⟩
        · rintro I' σ' H' e' E' ⟨a4, rfl, h6⟩
          cases h3
          exact A.bk I' σ' H' e' E' ⟨_, rfl, h6⟩
        · rintro I' σ' H' e' E' ⟨a4, rfl, h6⟩
          exact A.ct I' σ' H' e' E' ⟨_, .inl ⟨h6.wp' w, h3⟩⟩
      · omega
    · obtain ⟨a2, ⟨h2, h3⟩ | ⟨h3, _⟩⟩ := hI
      · rw [List.drop_length, forA] at h3
        cases h3
        exact ⟨_, rfl, h2⟩
      · exact h3
theorem runX_while {K : PySem.W.Frag} {tt : TT} {t : TS} {env : Env} {P : Pst} (In : Nat → Env → Prop) (h0 : ∃ m, In m env) (hs : ∀ m e, In m e → EvT K tt e fun b e2 => if b = true then RunX K t e2 ⟨fun e' => ∃ m', m' < m ∧ In m' e', P.rt, P.rf, P.nx, fun e' => ∃ m', m' < m ∧ In m' e'⟩ else P.nx e2) : RunX K (tWhile tt t) env P := fun F I0 I σ H D E A => by
  obtain ⟨m0, h0⟩ := h0
  refine ⟨fun m σ' H' => ∃ I' e, EnvI K F I0 I' σ' H' e ∧ In m e, ⟨m0, I, env, E, h0⟩, fun m σ' H' ⟨I', e, E', p⟩ => hs m e p F I0 I' σ' H' E' _ fun I2 H2 q e2 E2 x2 z => ?_⟩
  cases q with
  | true =>
    rw [if_pos rfl] at z ⊢
    refine ⟨fun σ3 H3 => ∃ m', m' < m ∧ ∃ I3 e3, EnvI K F I0 I3 σ3 H3 e3 ∧ In m' e3, fun σ3 H3 ⟨m', h1, h2⟩ => ⟨m', h1, h2⟩, ?_⟩
    exact z F I0 I2 σ' H2 _ E2 ⟨fun I3 σ3 H3 e3 E3 ⟨m', h1, h2⟩ => ⟨m', h1, I3, e3, E3, h2⟩, fun v I3 σ3 H3 d3 e3 E3 hd h => A.rt v I3 σ3 H3 d3 e3 E3 hd h, fun b I4 σ4 H4 xs ds e4 E4 f1 f2 f3 f4 f5 f6 q => A.rf b I4 σ4 H4 xs ds e4 E4 f1 f2 f3 f4 f5 f6 q, fun I3 σ3 H3 e3 E3 h => A.nx I3 σ3 H3 e3 E3 h, fun I3 σ3 H3 e3 E3 ⟨m', h1, h2⟩ => ⟨m', h1, I3, e3, E3, h2⟩⟩
  | false =>
    rw [if_neg Bool.false_ne_true] at z ⊢
    exact A.nx I2 σ' H2 e2 E2 z
def whA (c : Xt) (b : Xs) (w : List Nat) : Nat → AE → Option Out
  | 0, _ => none
  | n + 1, a => (c.ev a).bind fun p => if p.1 = true then (b.run p.2).bind fun o => match o with
      | .nx a2 => whA c b w n (wp a2 w)
      | .ct a2 => whA c b w n (wp a2 w)
      | .bk a2 => some (.nx a2)
      | .rt d a2 => some (.rt d a2)
      | .rf d a2 => some (.rf d a2)
    else some (.nx p.2)
def Xs.whileS (n : Nat) (c : Xt) (b : Xs) (w : List Nat) : Xs where
  t G := tWhile (c.t G) (b.t G)
  run a := whA c b w n (wp a w)
  ok G a o h p0 e he := by
    refine runX_while (fun m e => ∃ a2, Ab p0 e a2 ∧ whA c b w m a2 = some o) ⟨n, _, he.wp' w, h⟩ fun m e ⟨a2, h2, h3⟩ => ?_
    cases m with
    | zero => cases h3
    | succ m =>
      rw [whA] at h3
      obtain ⟨⟨q, a3⟩, g1, h3⟩ := Option.bind_eq_some_iff.mp h3
      refine (c.ok G _ _ _ g1 p0 e h2).imp fun b' e3 ⟨eb, h4⟩ => ?_
      subst eb
      split at h3
      · rename_i hb
        rw [if_pos hb]
        obtain ⟨o2, g2, h3⟩ := Option.bind_eq_some_iff.mp h3
        refine fun F I0 I σ H D E A => b.ok G _ _ g2 p0 e3 h4 F I0 I σ H D E ⟨?_, ?_, ?_, ?_, ?_⟩
        · rintro I' σ' H' e' E' ⟨a4, rfl, h6⟩
          exact A.nx I' σ' H' e' E' ⟨m, Nat.lt_succ_self m, _, h6.wp' w, h3⟩
        · rintro v I' σ' H' d e' E' hd ⟨a4, rfl, h6⟩
          cases h3
          exact A.rt v I' σ' H' d e' E' hd ⟨_, rfl, h6⟩
        · rintro c I' σ' H' xs ds e' E' f1 f2 f3 f4 f5 f6 ⟨a4, rfl, h6⟩
          cases h3
          exact A.rf c I' σ' H' xs ds e' E' f1 f2 f3 f4 f5 f6 ⟨_, rfl, h6⟩
        · rintro I' σ' H' e' E' ⟨a4, rfl, h6⟩
          cases h3
          exact A.bk I' σ' H' e' E' ⟨_, rfl, h6⟩
        · rintro I' σ' H' e' E' ⟨a4, rfl, h6⟩
          exact A.ct I' σ' H' e' E' ⟨m, Nat.lt_succ_self m, _, h6.wp' w, h3⟩
      · rename_i hb
        rw [if_neg hb]
        cases h3
        exact ⟨_, rfl, h4⟩
end Px

set_option Elab.async false
set_option linter.all false
set_option autoImplicit false
set_option maxRecDepth 100000
set_option maxHeartbeats 4000000
/-! Bodies of defs. -/
namespace Px
open PySem PySem.Spec PyProof.Rows L2 Lw
def tl (n : Nat) (ds : List PyData) : AE := ds.map (fun d => some (AV.dat d)) ++ List.replicate n none
def ent (n : Nat) : A1 → List PyData → AE
  | .no, ds => tl (n - ds.length) ds
  | .own bs, ds => some (.lst true bs) :: tl (n - (ds.length + 1)) ds
  | .seq ns, ds => some (.seq ns) :: tl (n - (ds.length + 1)) ds
def outOf : A1 → Out → Option (R1 × List PyData)
  | .own _, .rt d a => match gt a 0 with
    | some (.lst true bs) => some (.dat d, bs)
    | _ => none
  | .own _, .nx a => match gt a 0 with
    | some (.lst true bs) => some (.dat .none, bs)
    | _ => none
  | .own _, .rf ds a => match gt a 0 with
    | some (.lst true bs) => some (.fr ds, bs)
    | _ => none
  | .no, .rt d _ => some (.dat d, [])
  | .no, .nx _ => some (.dat .none, [])
  | .no, .rf ds _ => some (.fr ds, [])
  | .seq _, .rt d _ => some (.dat d, [])
  | .seq _, .nx _ => some (.dat .none, [])
  | .seq _, .rf ds _ => some (.fr ds, [])
  | _, _ => none
def argN : A1 → List PyData → Nat
  | .no, ds => ds.length
  | .own _, ds => ds.length + 1
  | .seq _, ds => ds.length + 1
def fnOf (m n : Nat) (b : Xs) : Fn := fun A ds => if argN A ds = m then (b.run (ent n A ds)).bind (outOf A) else none
def tlE (n : Nat) (ds : List PyData) : Env := ds.map (fun d => some (Lw.Val.dat d)) ++ List.replicate n none
theorem tl_len (n : Nat) (ds : List PyData) : (tl n ds).length = ds.length + n := by
  unfold tl
  rw [List.length_append, List.length_map, List.length_replicate]
theorem tlE_len (n : Nat) (ds : List PyData) : (tlE n ds).length = ds.length + n := by
  unfold tlE
  rw [List.length_append, List.length_map, List.length_replicate]
theorem gt_tl {n : Nat} {y : AV} : ∀ {ds : List PyData} {i : Nat}, gt (tl n ds) i = some y → ∃ d, y = .dat d ∧ (tlE n ds)[i]? = some (some (.dat d))
  | [], i, h => by
    exfalso
    have : ∀ (n i : Nat), gt (List.replicate n none) i ≠ some y := by
      intro n
      induction n with
      | zero => exact fun i h => nomatch h
      | succ n ih =>
        intro i h
        cases i with
        | zero => cases h
        | succ i => exact ih i h
    exact this n i h
  | d :: ds, 0, h => ⟨d, (Option.some.inj h).symm, rfl⟩
  | d :: ds, i + 1, h => by
    obtain ⟨d', h1, h2⟩ := gt_tl (n := n) (ds := ds) (i := i) h
    exact ⟨d', h1, by simpa [tlE] using h2⟩
theorem ab_tl (p0 : Addr) (n : Nat) (ds : List PyData) : Ab p0 (tlE n ds) (tl n ds) := by
  refine ⟨by rw [tl_len, tlE_len], fun i y h => ?_⟩
  obtain ⟨d, rfl, h1⟩ := gt_tl h
  exact ⟨_, h1, .dat d⟩
theorem ab_cons {p0 : Addr} {x : Lw.Val} {y : AV} {e : Env} {a : AE} (h : AbV p0 x y) (k : Ab p0 e a) : Ab p0 (some x :: e) (some y :: a) := by
  refine ⟨by rw [List.length_cons, List.length_cons, k.len], fun i z g => ?_⟩
  cases i with
  | zero =>
    cases g
    exact ⟨x, rfl, h⟩
  | succ i =>
    obtain ⟨w, h1, h2⟩ := k.at_ i z g
    exact ⟨w, h1, h2⟩
section
variable {K : PySem.W.Frag} {N : List Str}
theorem tlE_at {n i : Nat} {ds : List PyData} {x : Lw.Val} (h : (tlE n ds)[i]? = some (some x)) : ∃ hi : i < ds.length, x = .dat ds[i] := by
  unfold tlE at h
  by_cases z : i < ds.length
  · rw [List.getElem?_append_left (by simpa using z), List.getElem?_map, List.getElem?_eq_getElem z] at h
    exact ⟨z, by simpa using h.symm⟩
  · rw [List.getElem?_append_right (by simpa using z), List.getElem?_replicate] at h
    split at h <;> cases h
/-- slots that hold data alone -/
theorem env_tl {I H F : Hp} {vs : List V} {ds : List PyData} (hl : ds.length ≤ N.length) (hF : Ex F H) (hI : Ex I H) (hvs : DqAll K I vs ds) : EnvI K F I I (start N vs) H (tlE (N.length - ds.length) ds) := by
  have hl' := dpA_len hvs
  have hst : start N vs = vs.map some ++ List.replicate (N.length - vs.length) none := rfl
  refine ⟨hF, Ex.refl I, hI, fun _ _ h => h, by rw [hst, tlE_len]; simp [hl'], fun i x e => ?_, fun i j x y _ hi _ cx _ => ?_⟩
  · obtain ⟨z, rfl⟩ := tlE_at e
    obtain ⟨v, hv, hd⟩ := dpA_get hvs (List.getElem?_eq_getElem z)
    refine ⟨v, ?_, hd⟩
    rw [hst, List.getElem?_append_left (by simpa [hl'] using z), List.getElem?_map, hv]
    rfl
  · obtain ⟨z, rfl⟩ := tlE_at hi
    cases cx
/-- one cell ahead of them -/
theorem env_cons {I H F : Hp} {v : V} {vs : List V} {ds : List PyData} {x : Lw.Val} (hl : ds.length + 1 ≤ N.length) (hF : Ex F H) (hI : Ex I H) (hvs : DqAll K I vs ds) (hv : VOk K F I H v x) : EnvI K F I I (start N (v :: vs)) H (some x :: tlE (N.length - (ds.length + 1)) ds) := by
  have hl' := dpA_len hvs
  have hst : start N (v :: vs) = some v :: (vs.map some ++ List.replicate (N.length - (vs.length + 1)) none) := rfl
  refine ⟨hF, Ex.refl I, hI, fun _ _ h => h, by rw [hst]; simp [hl', tlE_len], fun i y e => ?_, fun i j y z hij hi hj cy cz => ?_⟩
  · cases i with
    | zero =>
      cases e
      exact ⟨v, rfl, hv⟩
    | succ i =>
      obtain ⟨z, rfl⟩ := tlE_at (i := i) e
      obtain ⟨u, hu, hd⟩ := dpA_get hvs (List.getElem?_eq_getElem z)
      refine ⟨u, ?_, hd⟩
      rw [hst, List.getElem?_cons_succ, List.getElem?_append_left (by simpa [hl'] using z), List.getElem?_map, hu]
      rfl
  · cases i with
    | succ i =>
      obtain ⟨_, rfl⟩ := tlE_at (i := i) hi
      cases cy
    | zero =>
      cases j with
      | zero => exact absurd rfl hij
      | succ j =>
        obtain ⟨_, rfl⟩ := tlE_at (i := j) hj
        cases cz
theorem bodyG {G : Gx} {m : Nat} {b : Xs} {vs : List V} {H : Hp} {Q : VK} {E : XK} (hm : m ≤ N.length) (h : spG G.K (fnOf m N.length b) vs H Q E) : b.t G { nx := fun _ H' => Q .non H', rt := Q } (start N vs) H := by
  obtain ⟨A, pw, xs, I, ds, hin, hI, hvs, hφ, k⟩ := h
  obtain ⟨⟨r, bs'⟩, hφ⟩ := Option.isSome_iff_exists.mp hφ
  have hφ' := hφ
  unfold fnOf at hφ
  split at hφ
  case isFalse => cases hφ
  rename_i hn
  obtain ⟨o, ho, hout⟩ := Option.bind_eq_some_iff.mp hφ
  cases A with
  | no =>
    obtain ⟨rfl, rfl⟩ := hin
    have hn : ds.length = m := hn
    have fin : ∀ {v : V} {I' : Hp} {H' : Hp}, Ex I I' → Ex I' H' → Ex H H' → (∀ a, H a ≠ none → I a = none → I' a = none) → ResOut G.K H I' H' v r → Q v H' := fun a1 a2 a3 a4 a5 => k _ _ _ r bs' hφ' a1 a2 (fun a o _ => a3 a o) a4 (fun p z => nomatch z) a5
    refine b.ok G _ o ho 0 _ (ab_tl _ _ ds) H I I _ H _ (env_tl (by omega) (Ex.refl H) hI hvs) ⟨?_, ?_, ?_, ?_, ?_⟩
    · rintro I' σ' H' e E' ⟨a, rfl, ha⟩
      cases hout
      exact fin E'.oi E'.ih E'.fh E'.fr Dq.non
    · rintro v I' σ' H' d e E' hd ⟨a, rfl, ha⟩
      cases hout
      exact fin E'.oi E'.ih E'.fh E'.fr hd
    · rintro D I' σ' H' ys es e E' f1 f2 f3 f4 f5 f6 ⟨a, rfl, ha⟩
      cases hout
      exact fin E'.oi E'.ih E'.fh E'.fr ⟨D, ys, rfl, f1, f3, f4, f5⟩
    · rintro I' σ' H' e E' ⟨a, rfl, ha⟩
      cases hout
    · rintro I' σ' H' e E' ⟨a, rfl, ha⟩
      cases hout
  | seq ns =>
    obtain ⟨rfl, a0, rfl, hsq⟩ := hin
    have hn : ds.length + 1 = m := hn
    have fin : ∀ {v : V} {I' : Hp} {H' : Hp}, Ex I I' → Ex I' H' → Ex H H' → (∀ a, H a ≠ none → I a = none → I' a = none) → ResOut G.K H I' H' v r → Q v H' := fun a1 a2 a3 a4 a5 => k _ _ _ r bs' hφ' a1 a2 (fun a o _ => a3 a o) a4 (fun p z => nomatch z) a5
    refine b.ok G _ o ho 0 _ (ab_cons (.seq ns) (ab_tl _ _ ds)) H I I _ H _ (env_cons (by omega) (Ex.refl H) hI hvs ⟨a0, rfl, hsq⟩) ⟨?_, ?_, ?_, ?_, ?_⟩
    · rintro I' σ' H' e E' ⟨a, rfl, ha⟩
      cases hout
      exact fin E'.oi E'.ih E'.fh E'.fr Dq.non
    · rintro v I' σ' H' d e E' hd ⟨a, rfl, ha⟩
      cases hout
      exact fin E'.oi E'.ih E'.fh E'.fr hd
    · rintro D I' σ' H' ys es e E' f1 f2 f3 f4 f5 f6 ⟨a, rfl, ha⟩
      cases hout
      exact fin E'.oi E'.ih E'.fh E'.fr ⟨D, ys, rfl, f1, f3, f4, f5⟩
    · rintro I' σ' H' e E' ⟨a, rfl, ha⟩
      cases hout
    · rintro I' σ' H' e E' ⟨a, rfl, ha⟩
      cases hout
  | own bs =>
    obtain ⟨p, ws, rfl, rfl, hH, hd, hIp⟩ := hin
    have hn : ds.length + 1 = m := hn
    have hent := env_cons (K := G.K) (N := N) (F := lessH H p) (v := .ref p) (x := .lst p bs) (by omega) (fun a o h => (lessH_some h).2) hI hvs ⟨rfl, lessH_same, hIp, ws, hH, hd⟩
    have less : ∀ {a : Addr}, lessH H p a = none → a ≠ p → H a = none := fun {a} h z => by
      rw [lessH_ne z] at h
      exact h
    have fin : ∀ {v : V} {I' : Hp} {H' : Hp} {σ' : L2.St} {e : Env} {a : AE} {cs : List PyData}, EnvI G.K (lessH H p) I I' σ' H' e → Ab p e a → gt a 0 = some (.lst true cs) → cs = bs' → ((∃ y, e[0]? = some (some y) ∧ isCell y = true ∧ σ'[0]? = some (some (.ref p))) → ResOut G.K H I' H' v r) → Q v H' := fun {v I' H' σ' e a cs} E' ha hg ec hres => by
      subst ec
      obtain ⟨q, hq, hqp⟩ := ha.lst hg
      obtain rfl := hqp rfl
      obtain ⟨w, hs, ew, hF, hI', us, hH', hd'⟩ := E'.at_ 0 _ hq
      subst ew
      refine k v I' H' r cs hφ' E'.oi E'.ih (fun a o hap ho => E'.fh a o (by rw [lessH_ne fun z => hap (by rw [z])]; exact ho)) (fun a h1 h2 => ?_) (fun p' hp' => by cases hp'; exact ⟨us, hH', hd'⟩) (hres ⟨_, hq, rfl, hs⟩)
      by_cases z : a = q
      · subst z
        exact hI'
      · exact E'.fr a (by rw [lessH_ne z]; exact h1) h2
    have rt' : ∀ {v : V} {I' : Hp} {σ' : L2.St} {H' : Hp} {d : PyData} {e : Env} {a : AE}, EnvI G.K (lessH H p) I I' σ' H' e → Ab p e a → Dq G.K I' v d → (match gt a 0 with | some (.lst true bs) => some (R1.dat d, bs) | _ => none) = some (r, bs') → Q v H' := fun {v I' σ' H' d e a} E' ha hd hout => by
      split at hout
      · rename_i cs hg
        cases hout
        exact fin E' ha hg rfl fun _ => hd
      · cases hout
    refine b.ok G _ o ho p _ (ab_cons (.lst p true bs fun _ => rfl) (ab_tl _ _ ds)) _ I I _ H _ hent ⟨?_, ?_, ?_, ?_, ?_⟩
    · rintro I' σ' H' e E' ⟨a, rfl, ha⟩
      exact rt' E' ha .non hout
    · rintro v I' σ' H' d e E' hd ⟨a, rfl, ha⟩
      exact rt' E' ha hd hout
    · rintro D I' σ' H' ys es e E' f1 f2 f3 f4 f5 f6 ⟨a, rfl, ha⟩
      have hout : (match gt a 0 with | some (.lst true bs) => some (R1.fr es, bs) | _ => none) = some (r, bs') := hout
      split at hout
      · rename_i cs hg
        cases hout
        refine fin E' ha hg rfl fun ⟨y, h1, h2, h3⟩ => ⟨D, ys, rfl, less f1 fun z => f6 0 y h1 h2 (by rw [h3, z]), f3, f4, f5⟩
      · cases hout
    · rintro I' σ' H' e E' ⟨a, rfl, ha⟩
      cases hout
    · rintro I' σ' H' e E' ⟨a, rfl, ha⟩
      cases hout
end
section
variable {P : Program} {w : World} {K : PySem.W.Frag} {mg : Str → Option Value} {base : Heap}
theorem spG_len {K : PySem.W.Frag} {m n : Nat} {b : Xs} {vs : List V} {H : Hp} {Q : VK} {E : XK} (h : spG K (fnOf m n b) vs H Q E) : vs.length = m := by
  obtain ⟨A, pw, xs, I, ds, hin, hI, hvs, hφ, k⟩ := h
  obtain ⟨r, hφ⟩ := Option.isSome_iff_exists.mp hφ
  unfold fnOf at hφ
  split at hφ
  case isFalse => cases hφ
  rename_i hn
  have hl := dpA_len hvs
  cases A with
  | no =>
    obtain ⟨rfl, rfl⟩ := hin
    exact hl.trans hn
  | seq ns =>
    obtain ⟨rfl, a0, rfl, hsq⟩ := hin
    rw [List.length_cons, hl]
    exact hn
  | own bs =>
    obtain ⟨p, ws, rfl, rfl, _⟩ := hin
    rw [List.length_cons, hl]
    exact hn
/-- a def, by its body -/
theorem DefAt.calG {x : Str} {st : Stmt} {N ps : List Str} {k : Nat} {b : Xs} {G : Gx} (hG : G.K = K) (D : DefAt K mg x st ps) (S : FnScope N ps (defScope st)) (hm : ps.length ≤ N.length)
    (hbody : ∀ (f : Addr) (cdv : Value) (A : Around) (outer : List PySem.Env) (s : Shared) (H : Hp) (E : XK), Room k (A.deeper (envOfC x (defScope st) s.heap.objs.size f cdv)) →
      PSs (cxOf L2.CX0 P w K mg base N x (defScope st) f cdv A outer s H E).nox (defBody st) (b.t G)) : Cal P w K mg base (k + 1) x (spG K (fnOf ps.length N.length b)) := by
  subst hG
  exact D.cal S (fun vs H Q E h => spG_len h) fun f cdv A outer s H vs Q E hr h => ⟨_, hbody f cdv A outer s H E hr, bodyG hm h⟩
end
end Px

set_option Elab.async false
set_option linter.all false
set_option autoImplicit false
set_option maxRecDepth 100000
set_option maxHeartbeats 4000000
/-! Operators, built-ins, what is walked, targets. -/
namespace Px
open PySem PySem.Spec PyProof.Rows L2 Lw
/-! ### operators -/
def int2 (f : Int → Int → Option PyData) : PyData → PyData → Option PyData
  | .int i, .int j => f i j
  | _, _ => none
theorem int2_some {f : Int → Int → Option PyData} {a b c : PyData} (h : int2 f a b = some c) : ∃ i j, a = .int i ∧ b = .int j ∧ f i j = some c := by
  unfold int2 at h
  split at h
  · exact ⟨_, _, rfl, rfl, h⟩
  · cases h
def oI0 (g : Int → Int → Int) : Xo where
  r _ := rI0 fun i j => .int (g i j)
  f := int2 fun i j => some (.int (g i j))
  ok G a b c h := by
    obtain ⟨i, j, rfl, rfl, h⟩ := int2_some h
    cases h
    exact rd_I0
def oB0 (g : Int → Int → Bool) : Xo where
  r _ := rI0 fun i j => .bl (g i j)
  f := int2 fun i j => some (.bool (g i j))
  ok G a b c h := by
    obtain ⟨i, j, rfl, rfl, h⟩ := int2_some h
    cases h
    exact rd_IB
def oI (C : Int → Int → Prop) (D : Int → Int → Bool) (hD : ∀ i j, D i j = true → C i j) (g : Int → Int → Int) : Xo where
  r _ := rI C fun i j => .int (g i j)
  f := int2 fun i j => if D i j = true then some (.int (g i j)) else none
  ok G a b c h := by
    obtain ⟨i, j, rfl, rfl, h'⟩ := int2_some h
    split at h'
    · rename_i hd
      cases h'
      exact rd_I (hD i j hd)
    · cases h'
def oAdd : Xo := oI0 fun i j => i + j
def oSub : Xo := oI0 fun i j => i - j
def oAnd : Xo := oI0 fun i j => Builtin.bitAnd i j
def oOr : Xo := oI0 fun i j => Builtin.bitOr i j
def oLt : Xo := oB0 fun i j => decide (i < j)
def oLe : Xo := oB0 fun i j => decide (i ≤ j)
def oGt : Xo := oB0 fun i j => decide (j < i)
def oGe : Xo := oB0 fun i j => decide (j ≤ i)
def mulD (i j : Int) : Bool := decide (-(2 ^ 64) < i ∧ i < 2 ^ 64)
def oMul : Xo := oI CMul mulD (fun i j h => .inl (of_decide_eq_true h)) fun i j => i * j
def posD (_ j : Int) : Bool := decide (0 < j)
def oMod : Xo := oI (fun _ j => 0 < j) posD (fun i j h => of_decide_eq_true h) fun i j => i % j
def divD (_ j : Int) : Bool := decide (0 < j ∧ j.natAbs.log2 < 9000)
def oDiv : Xo := oI CDivW divD (fun i j h => (of_decide_eq_true h : 0 < j ∧ j.natAbs.log2 < 9000)) fun i j => i / j
def shD (i j : Int) : Bool := decide (0 ≤ j ∧ j ≤ 1000000 ∧ i.natAbs < 2 ^ 64)
def oPow : Xo := oI CPow shD (fun i j h => (of_decide_eq_true h : 0 ≤ j ∧ j ≤ 1000000 ∧ i.natAbs < 2 ^ 64)) fun i j => i ^ j.toNat
def CPowB (i j : Int) : Prop := 0 ≤ j ∧ (Builtin.Int.intBits i : Int) * j ≤ 2 ^ 27
theorem op_powB {X : Cx} : OpR X (binaryOp .Pow) (rI CPowB fun i j => .int (i ^ j.toNat)) := opI fun _ _ _ _ _ _ _ hc q => pow_int hc.1 hc.2 q
def powBD (i j : Int) : Bool := decide (0 ≤ j ∧ (Builtin.Int.intBits i : Int) * j ≤ 2 ^ 27)
def oPowB : Xo := oI CPowB powBD (fun i j h => (of_decide_eq_true h : 0 ≤ j ∧ (Builtin.Int.intBits i : Int) * j ≤ 2 ^ 27)) fun i j => i ^ j.toNat
def oShl : Xo := oI CPow shD (fun i j h => (of_decide_eq_true h : 0 ≤ j ∧ j ≤ 1000000 ∧ i.natAbs < 2 ^ 64)) fun i j => i * 2 ^ j.toNat
def nonnegD (_ j : Int) : Bool := decide (0 ≤ j)
def oShr : Xo := oI (fun _ j => 0 ≤ j) nonnegD (fun i j h => of_decide_eq_true h) fun i j => i / 2 ^ j.toNat
/-- flat things, compared -/
def flatQ : PyData → PyData → Option Bool
  | .int i, .int j => some (decide (i = j))
  | .str i, .str j => some (decide (i = j))
  | .bool i, .bool j => some (decide (i = j))
  | .none, .none => some true
  | .none, .int _ => some false
  | .int _, .none => some false
  | .none, .str _ => some false
  | .str _, .none => some false
  | .none, .bool _ => some false
  | .bool _, .none => some false
  | _, _ => none
theorem flatQ_ok {K : PySem.W.Frag} {I : Hp} {a b : PyData} {q : Bool} {x y : V} (h : flatQ a b = some q) (hx : Dq K I x a) (hy : Dq K I y b) : scal x y = true ∧ decide (x = y) = q := by
  unfold flatQ at h
  split at h
  · cases h; cases dp_int hx; cases dp_int hy; exact ⟨rfl, by simp⟩
  · cases h; cases dp_str hx; cases dp_str hy; exact ⟨rfl, by simp⟩
  · cases h; cases dp_bl hx; cases dp_bl hy; exact ⟨rfl, by simp⟩
  · cases h; cases dp_non hx; cases dp_non hy; exact ⟨rfl, by simp⟩
  · cases h; cases dp_non hx; cases dp_int hy; exact ⟨rfl, by simp⟩
  · cases h; cases dp_int hx; cases dp_non hy; exact ⟨rfl, by simp⟩
  · cases h; cases dp_non hx; cases dp_str hy; exact ⟨rfl, by simp⟩
  · cases h; cases dp_str hx; cases dp_non hy; exact ⟨rfl, by simp⟩
  · cases h; cases dp_non hx; cases dp_bl hy; exact ⟨rfl, by simp⟩
  · cases h; cases dp_bl hx; cases dp_non hy; exact ⟨rfl, by simp⟩
  · cases h
def oEq : Xo where
  r _ := rEq
  f a b := (flatQ a b).bind fun q => some (.bool q)
  ok G a b c h I H x y e hx hy Q k _ := by
    obtain ⟨q, h1, h⟩ := Option.bind_eq_some_iff.mp h
    cases h
    obtain ⟨z1, z2⟩ := flatQ_ok h1 hx hy
    exact ⟨z1, by rw [z2]; exact k _ (.bl q)⟩
def oNe : Xo where
  r _ := rNe
  f a b := (flatQ a b).bind fun q => some (.bool (!q))
  ok G a b c h I H x y e hx hy Q k _ := by
    obtain ⟨q, h1, h⟩ := Option.bind_eq_some_iff.mp h
    cases h
    obtain ⟨z1, z2⟩ := flatQ_ok h1 hx hy
    exact ⟨z1, by rw [z2]; exact k _ (.bl _)⟩
def oEqD : Xo where
  r g := rEqD g.K
  f a b := if (SeqAt.shaped a && SeqAt.shaped b) = true then some (.bool (PyData.eqv a b)) else none
  ok G a b c h := by
    split at h
    · rename_i hs
      cases h
      have hs := Bool.and_eq_true_iff.mp hs
      exact rd_eqD hs.1 hs.2
    · cases h
def oNeD : Xo where
  r g := rNeD g.K
  f a b := if (SeqAt.shaped a && SeqAt.shaped b) = true then some (.bool (!PyData.eqv a b)) else none
  ok G a b c h := by
    split at h
    · rename_i hs
      cases h
      have hs := Bool.and_eq_true_iff.mp hs
      exact rd_neD hs.1 hs.2
    · cases h
def isN : PyData → PyData → Option PyData
  | a, .none => some (.bool (isNoneD a))
  | _, _ => none
def oIsN : Xo where
  r _ := fun x y H Q => y = .non ∧ Q (.bl (decide (x = .non))) H
  f := isN
  ok G a b c h := by
    unfold isN at h
    split at h
    · cases h
      exact rd_isN
    · cases h
def notN : PyData → PyData → Option PyData
  | a, .none => some (.bool (!isNoneD a))
  | _, _ => none
def oNotN : Xo where
  r _ := fun x y H Q => y = .non ∧ Q (.bl (!decide (x = .non))) H
  f := notN
  ok G a b c h := by
    unfold notN at h
    split at h
    · cases h
      exact rd_notN
    · cases h
/-- x in xs, flat things -/
def inQ (a : PyData) (ds : List PyData) : Bool := inV (toV a) (ds.map toV)
def oIn (neg : Bool) : Xo where
  r g := rIn g.K neg
  f a b := (seqOf b).bind fun ds => if (flatD a && ds.all flatD) = true then some (.bool (if neg then !inQ a ds else inQ a ds)) else none
  ok G a b c h := by
    obtain ⟨ds, h1, h⟩ := Option.bind_eq_some_iff.mp h
    split at h
    · rename_i hf
      cases h
      have hf := Bool.and_eq_true_iff.mp hf
      exact rd_in h1 hf.1 hf.2
    · cases h
/-- one sign in a text -/
def inS : PyData → PyData → Option PyData
  | .str c, .str z => match c.cps.toList with
    | [k] => some (.bool (decide (k ∈ z.cps.toList)))
    | _ => none
  | _, _ => none
def oInS : Xo where
  r _ := rInS
  f := inS
  ok G a b c h := by
    unfold inS at h
    split at h
    · rename_i c z
      split at h
      · rename_i k hk
        cases h
        have : c = ⟨#[k]⟩ := by
          cases c with
          | mk cps =>
            have hk : cps.toList = [k] := hk
            have : cps = #[k] := Array.ext' hk
            rw [this]
        subst this
        exact rd_inS
      · cases h
    · cases h
def ixF : PyData → PyData → Option PyData
  | .list ds, .int i => atI ds i
  | .tuple ds, .int i => atI ds i
  | .str z, .int i => if z.length ≤ 100000 then (atI z.cps.toList i).bind fun k => some (.str ⟨#[k]⟩) else none
  | _, _ => none
def oIx : Xo where
  r g := rIx g.K
  f := ixF
  ok G a b c h := by
    unfold ixF at h
    split at h
    · exact rd_ix (r := rEq) (.inl (rd_ixL h))
    · exact rd_ix (r := rEq) (.inr (.inl (rd_ixT h)))
    · split at h
      · rename_i hl
        obtain ⟨k, h1, h⟩ := Option.bind_eq_some_iff.mp h
        cases h
        exact rd_ix (r := rEq) (.inr (.inr (rd_ixS hl h1)))
      · cases h
    · cases h
def catL : PyData → PyData → Option PyData
  | .list ds, .list es => if ds.length + es.length ≤ 100000 then some (.list (ds ++ es)) else none
  | _, _ => none
theorem rd_catL {K : PySem.W.Frag} {ds es : List PyData} (hl : ds.length + es.length ≤ 100000) : RD K rCat (.list ds) (.list es) (.list (ds ++ es)) := fun I H x y e hx hy Q q q2 => by
  obtain ⟨p, xs, rfl, hs, hd⟩ := dp_lst hx
  obtain ⟨p', ys, rfl, hs', hd'⟩ := dp_lst hy
  exact ⟨p, p', xs, ys, rfl, rfl, e _ _ hs, e _ _ hs', Nat.le_trans (by rw [dpA_len hd, dpA_len hd']; exact hl) (by decide), fun np hp => q2 _ _ hp (.lst upd_same (dpA_mono (Ex.new (e.back hp)) (dpA_app hd hd')))⟩
def oCat : Xo where
  r _ := rCat
  f := catL
  ok G a b c h := by
    unfold catL at h
    split at h
    · split at h
      · rename_i hl
        cases h
        exact rd_catL hl
      · cases h
    · cases h
def catT : PyData → PyData → Option PyData
  | .tuple ds, .tuple es => if ds.length + es.length ≤ 100000 then some (.tuple (ds ++ es)) else none
  | _, _ => none
def oCatT : Xo where
  r g := rCatA g.K
  f := catT
  ok G a b c h := by
    unfold catT at h
    split at h
    · split at h
      · rename_i hl
        cases h
        exact rd_catT hl
      · cases h
    · cases h
def addS : PyData → PyData → Option PyData
  | .str z, .str u => if z.length + u.length ≤ 100000 then some (.str (z ++ u)) else none
  | _, _ => none
def oAddS : Xo where
  r _ := fun x y H Q => ∃ i j, x = .str i ∧ y = .str j ∧ i.length + j.length ≤ sizeLine ∧ Q (.str (i ++ j)) H
  f := addS
  ok G a b c h := by
    unfold addS at h
    split at h
    · split at h
      · rename_i hl
        cases h
        exact rd_addS hl
      · cases h
    · cases h
/-! ### built-ins -/
def lenF : List PyData → Option PyData
  | [d] => (lenD d).bind fun n => some (.int n)
  | _ => none
def bLen : Xb where
  r g := fun xs H Q => ∃ x n, xs = [x] ∧ LenV g.K x H n ∧ Q (.int n) H
  f := lenF
  ok G as c h := by
    unfold lenF at h
    split at h
    · obtain ⟨n, h1, h⟩ := Option.bind_eq_some_iff.mp h
      cases h
      exact rc_len h1
    · cases h
def tupF : List PyData → Option PyData
  | [.list ds] => some (.tuple ds)
  | [.tuple ds] => some (.tuple ds)
  | _ => none
theorem rc_tupT {K : PySem.W.Frag} {ds : List PyData} : RC K (rTupOf K) [.tuple ds] (.tuple ds) := fun I H xs e hx Q q _ => by
  cases hx with
  | cons h1 h2 =>
    cases h2
    obtain ⟨p, ys, rfl, hp, hd⟩ := dp_tup h1
    exact ⟨p, ys, rfl, .inr ⟨e.t hp, q _ (.tup hp hd)⟩⟩
def bTup : Xb where
  r g := rTupOf g.K
  f := tupF
  ok G as c h := by
    unfold tupF at h
    split at h
    · cases h
      exact rc_tupL
    · cases h
      exact rc_tupT
    · cases h
def lstF : List PyData → Option PyData
  | [.list ds] => some (.list ds)
  | [.tuple ds] => some (.list ds)
  | _ => none
theorem rc_lstL {K : PySem.W.Frag} {ds : List PyData} : RC K (rLstOf K) [.list ds] (.list ds) := fun I H xs e hx Q _ q2 => by
  cases hx with
  | cons h1 h2 =>
    cases h2
    obtain ⟨p, ys, rfl, hp, hd⟩ := dp_lst h1
    exact ⟨p, ys, rfl, .inl (.inl (.inl (e _ _ hp))), fun l hl => q2 l _ hl (.lst upd_same (dpA_mono (Ex.new (e.back hl)) hd))⟩
def bLst : Xb where
  r g := rLstOf g.K
  f := lstF
  ok G as c h := by
    unfold lstF at h
    split at h
    · cases h
      exact rc_lstL
    · cases h
      exact rc_lstT
    · cases h
def boolsOf : List PyData → Option (List Bool)
  | [] => some []
  | .bool b :: r => (boolsOf r).bind fun bs => some (b :: bs)
  | _ => none
theorem boolsOf_eq : ∀ {ds : List PyData} {bs : List Bool}, boolsOf ds = some bs → ds = bs.map .bool
  | [], bs, h => by cases h; rfl
  | .bool b :: r, bs, h => by
    obtain ⟨bs', h1, h⟩ := Option.bind_eq_some_iff.mp h
    cases h
    rw [boolsOf_eq h1]
    rfl
  | .none :: _, _, h | .int _ :: _, _, h | .str _ :: _, _, h | .list _ :: _, _, h | .tuple _ :: _, _, h | .dict _ :: _, _, h => nomatch h
def allF : List PyData → Option PyData
  | [.list ds] => (boolsOf ds).bind fun bs => some (.bool (bs.all id))
  | _ => none
def bAll : Xb where
  r g := rAll g.K
  f := allF
  ok G as c h := by
    unfold allF at h
    split at h
    · obtain ⟨bs, h1, h⟩ := Option.bind_eq_some_iff.mp h
      cases h
      rw [boolsOf_eq h1]
      exact rc_all
    · cases h
def maxF : List PyData → Option PyData
  | [.int x, .int y] => some (.int (if y > x then y else x))
  | _ => none
def bMax : Xb where
  r _ := fun xs H Q => ∃ i j, xs = [.int i, .int j] ∧ Q (.int (if j > i then j else i)) H
  f := maxF
  ok G as c h := by
    unfold maxF at h
    split at h
    · cases h
      exact rc_max2
    · cases h
def minF : List PyData → Option PyData
  | [.int x, .int y] => some (.int (if y < x then y else x))
  | _ => none
def bMin : Xb where
  r _ := fun xs H Q => ∃ i j, xs = [.int i, .int j] ∧ Q (.int (if j < i then j else i)) H
  f := minF
  ok G as c h := by
    unfold minF at h
    split at h
    · cases h
      exact rc_min2
    · cases h
def intF : List PyData → Option PyData
  | [.bool p] => some (.int (if p then 1 else 0))
  | [.int i] => some (.int i)
  | _ => none
theorem rc_int0 {K : PySem.W.Frag} {i : Int} : RC K (fun xs H Q => (∃ i, xs = [.int i] ∧ Q (.int i) H) ∨ ∃ k, xs = [.bl k] ∧ Q (.int (if k then 1 else 0)) H) [.int i] (.int i) := fun I H xs e hx Q q _ => by
  cases hx with
  | cons h1 h2 =>
    cases h2
    cases dp_int h1
    exact .inl ⟨i, rfl, q _ (.int _)⟩
def bInt : Xb where
  r _ := fun xs H Q => (∃ i, xs = [.int i] ∧ Q (.int i) H) ∨ ∃ k, xs = [.bl k] ∧ Q (.int (if k then 1 else 0)) H
  f := intF
  ok G as c h := by
    unfold intF at h
    split at h
    · cases h
      exact rc_int1
    · cases h
      exact rc_int0
    · cases h
def strF : List PyData → Option PyData
  | [.int i] => if i.natAbs.log2 < 1920 then some (.str (toString i)) else none
  | _ => none
def bStrI : Xb where
  r _ := fun xs H Q => ∃ i, xs = [.int i] ∧ i.natAbs.log2 < 1920 ∧ Q (.str (toString i)) H
  f := strF
  ok G as c h := by
    unfold strF at h
    split at h
    · split at h
      · rename_i hl
        cases h
        intro I H xs e hx Q q _
        cases hx with
        | cons h1 h2 =>
          cases h2
          cases dp_int h1
          exact ⟨_, rfl, hl, q _ (.str _)⟩
      · cases h
    · cases h
/-- x.bit_length() -/
def Xe.bits (x : Xe) : Xe where
  t g := tBits (x.t g)
  ev a := (x.ev a).bind fun p => match p.1 with
    | .int i => some (.int (Builtin.Int.intBits i : Nat), p.2)
    | _ => none
  ok g a d a' h p0 e he F I0 I σ H E Q q := by
    obtain ⟨⟨d1, a1⟩, h1, h⟩ := Option.bind_eq_some_iff.mp h
    refine x.ok g a _ _ h1 p0 e he F I0 I σ H E _ fun v I1 H1 ds e1 E1 x1 hv ⟨ed, ha⟩ => ?_
    subst ed
    dsimp only at h
    split at h
    · cases h
      cases dp_int hv
      exact ⟨_, rfl, q _ I1 H1 _ e1 E1 x1 (.int _) ⟨rfl, ha⟩⟩
    · cases h
/-- isinstance(x, T) -/
def isiF (d : PyData) (T : String) : Option Bool := match T, d with
  | _, .dict _ => none
  | "str", .str _ => some true
  | "str", _ => some false
  | "int", .int _ => some true
  | "int", .bool _ => some true
  | "int", _ => some false
  | "bool", .bool _ => some true
  | "bool", _ => some false
  | "tuple", .tuple _ => some true
  | "tuple", _ => some false
  | "list", .list _ => some true
  | "list", _ => some false
  | _, _ => none
theorem isiF_ok {d : PyData} {T : String} {r : Bool} (h : isiF d T = some r) : kitB (tyD d) T = some r := by
  have kbs : (kitB "NoneType" "str" = some false ∧ kitB "bool" "str" = some false ∧ kitB "int" "str" = some false ∧ kitB "str" "str" = some true ∧ kitB "list" "str" = some false ∧ kitB "tuple" "str" = some false) ∧
    (kitB "NoneType" "int" = some false ∧ kitB "bool" "int" = some true ∧ kitB "int" "int" = some true ∧ kitB "str" "int" = some false ∧ kitB "list" "int" = some false ∧ kitB "tuple" "int" = some false) ∧
    (kitB "NoneType" "bool" = some false ∧ kitB "bool" "bool" = some true ∧ kitB "int" "bool" = some false ∧ kitB "str" "bool" = some false ∧ kitB "list" "bool" = some false ∧ kitB "tuple" "bool" = some false) ∧
    (kitB "NoneType" "tuple" = some false ∧ kitB "bool" "tuple" = some false ∧ kitB "int" "tuple" = some false ∧ kitB "str" "tuple" = some false ∧ kitB "list" "tuple" = some false ∧ kitB "tuple" "tuple" = some true) ∧
    (kitB "NoneType" "list" = some false ∧ kitB "bool" "list" = some false ∧ kitB "int" "list" = some false ∧ kitB "str" "list" = some false ∧ kitB "list" "list" = some true ∧ kitB "tuple" "list" = some false) := by decide +kernel
  obtain ⟨⟨a1, a2, a3, a4, a5, a6⟩, ⟨b1, b2, b3, b4, b5, b6⟩, ⟨c1, c2, c3, c4, c5, c6⟩, ⟨d1, d2, d3, d4, d5, d6⟩, ⟨e1, e2, e3, e4, e5, e6⟩⟩ := kbs
  unfold isiF at h
  split at h <;> first | (cases h; done) | (cases h; first | assumption | (cases d <;> first | assumption | (rename_i h1 h2; exact absurd rfl (h2 _)) | (rename_i h1 h2 h3; exact absurd rfl (h2 _)) | (rename_i h1 h2; exact absurd rfl (h1 _)) | (rename_i h1; exact absurd rfl (h1 _))))
end Px

set_option Elab.async false
set_option linter.all false
set_option autoImplicit false
set_option maxRecDepth 100000
set_option maxHeartbeats 4000000
/-! What is walked, targets, slices, dicts. -/
namespace Px
open PySem PySem.Spec PyProof.Rows L2 Lw
def Xe.isi (x : Xe) (T : String) : Xe where
  t g := tCB (rIsi g.K) (tCons (x.t g) (tCons (tC (.ty T)) tNil))
  ev a := (x.ev a).bind fun p => (isiF p.1 T).bind fun r => some (.bool r, p.2)
  ok g a d a' h p0 e he F I0 I σ H E Q q := by
    obtain ⟨⟨d1, a1⟩, h1, h⟩ := Option.bind_eq_some_iff.mp h
    obtain ⟨r, h2, h⟩ := Option.bind_eq_some_iff.mp h
    cases h
    refine x.ok g a _ _ h1 p0 e he F I0 I σ H E _ fun v I1 H1 ds e1 E1 x1 hv ⟨ed, ha⟩ => ?_
    subst ed
    exact ⟨v, .ty T, _, _, r, rfl, .ty T, tyx_of (dp_mono E1.ih hv), kit_ty (isiF_ok h2), q _ I1 H1 _ e1 E1 x1 (.bl _) ⟨rfl, ha⟩⟩
/-! ### targets -/
def Xg.name (i : Nat) : Xg where
  t _ := gName i
  ev d a := some (st a i (some (.dat d)))
  ok g a d a' h p0 e he := by
    cases h
    exact tgt_name (he.set i (.dat d))
/-- names, one by one -/
def gNames : List Nat → TGs
  | [] => gNil
  | i :: is => gCons (gName i) (gNames is)
def stN : AE → List Nat → List PyData → Option AE
  | a, [], [] => some a
  | a, i :: is, d :: ds => stN (st a i (some (.dat d))) is ds
  | _, _, _ => none
theorem stN_ok {K : PySem.W.Frag} {p0 : Addr} : ∀ {is : List Nat} {ds : List PyData} {a a' : AE} {e : Env}, stN a is ds = some a' → Ab p0 e a → Tgts K (gNames is) ds e fun e' => Ab p0 e' a'
  | [], [], a, a', e, h, he => by
    cases h
    exact tgts_nil he
  | i :: is, d :: ds, a, a', e, h, he => tgts_cons (tgt_name (stN_ok h (he.set i (.dat d))))
  | [], _ :: _, _, _, _, h, _ => nomatch h
  | _ :: _, [], _, _, _, h, _ => nomatch h
theorem stN_len : ∀ {is : List Nat} {ds : List PyData} {a a' : AE}, stN a is ds = some a' → ds.length = is.length
  | [], [], a, a', h => rfl
  | i :: is, d :: ds, a, a', h => congrArg (· + 1) (stN_len h)
  | [], _ :: _, _, _, h => nomatch h
  | _ :: _, [], _, _, h => nomatch h
def Xg.tup (is : List Nat) : Xg where
  t g := gTup g.K is.length (gNames is)
  ev d a := match d with
    | .tuple ds => stN a is ds
    | _ => none
  ok g a d a' h p0 e he := by
    split at h
    · exact tgt_tup (stN_len h) (stN_ok h he)
    · cases h
def Xg.lst (is : List Nat) : Xg where
  t g := gLst g.K is.length (gNames is)
  ev d a := match d with
    | .list ds => stN a is ds
    | _ => none
  ok g a d a' h p0 e he F I0 I σ H v E hd Q q := by
    split at h
    · obtain ⟨b, xs, rfl, hs, hds⟩ := dp_lst hd
      exact ⟨b, xs, rfl, E.ih.l (.inl (.inl hs)), (dpA_len hds).trans (stN_len h), stN_ok h he F I0 I σ H xs E hds Q q⟩
    · cases h
theorem own_names {is vs : List Nat} (h : ∀ i ∈ is, i ∈ vs) : OwnGs (gNames is) vs := by
  induction is with
  | nil => exact owns_nil
  | cons i is ih => exact owns_cons (h i (by simp)) (ih fun j hj => h j (by simp [hj]))
theorem own_xname {i : Nat} {vs : List Nat} (h : i ∈ vs) (G : Gx) : OwnG ((Xg.name i).t G) vs := own_name h
theorem own_xtup {is vs : List Nat} (h : ∀ i ∈ is, i ∈ vs) (G : Gx) : OwnG ((Xg.tup is).t G) vs := own_tup (own_names h)
/-! ### what is walked -/
def itList (x : Xe) : Xi where
  t g := iList g.K (x.t g)
  ev a := (x.ev a).bind fun p => match p.1 with
    | .list ds => some (ds, p.2)
    | _ => none
  ok g a d a' h p0 e he := by
    obtain ⟨⟨d1, a1⟩, h1, h⟩ := Option.bind_eq_some_iff.mp h
    refine ewe_list ((x.ok g a _ _ h1 p0 e he).imp fun z e1 ⟨ed, ha⟩ => ?_)
    subst ed
    dsimp only at h
    split at h
    · cases h
      exact ⟨_, rfl, rfl, ha⟩
    · cases h
def itTup (x : Xe) : Xi where
  t g := iTup g.K (x.t g)
  ev a := (x.ev a).bind fun p => match p.1 with
    | .tuple ds => some (ds, p.2)
    | _ => none
  ok g a d a' h p0 e he F I0 I σ H E R q := by
    obtain ⟨⟨d1, a1⟩, h1, h⟩ := Option.bind_eq_some_iff.mp h
    refine x.ok g a _ _ h1 p0 e he F I0 I σ H E _ fun v I1 H1 ds e1 E1 x1 hd ⟨ed, ha⟩ => ?_
    subst ed
    dsimp only at h
    split at h
    · cases h
      obtain ⟨b, xs, rfl, hs, hds⟩ := dp_tup hd
      have hl := dpA_len hds
      refine ⟨b, rfl, ⟨xs, E1.ih.t hs⟩, q _ I1 H1 _ _ _ e1 ⟨rfl, ha⟩ E1 x1 (hl ▸ walk_tup (K := g.K) (a := b) (xs := xs)) (fun H2 x => x.t hs) fun j H2 x H3 I2 hj x2 x3 y => ?_⟩
      obtain ⟨eH, ex⟩ := y
      obtain ⟨w, hw, hwd⟩ := dpA_get hds (List.getElem?_eq_getElem hj)
      rw [hw] at ex
      cases ex
      exact ⟨_, List.getElem?_eq_getElem hj, .inl ⟨eH, dp_mono x2 hwd⟩⟩
    · cases h
def itRng1 (x : Xe) : Xi where
  t g := iRng1 (tCons (x.t g) tNil)
  ev a := (x.ev a).bind fun p => match p.1 with
    | .int n => if n ≤ 100000 ∧ -100000 ≤ n then some (intsD 0 n.toNat, p.2) else none
    | _ => none
  ok g a d a' h p0 e he := by
    obtain ⟨⟨d1, a1⟩, h1, h⟩ := Option.bind_eq_some_iff.mp h
    refine ewe_rng1 (ev_cons (x.ok g a _ _ h1 p0 e he) fun z e1 ⟨ed, ha⟩ => ea_nil.imp fun zs e2 ⟨h3, h4⟩ => ?_)
    subst ed h3 h4
    dsimp only at h
    split at h
    · split at h
      · rename_i n _ hn
        cases h
        exact ⟨n, rfl, hn, rfl, ha⟩
      · cases h
    · cases h
/-- enumerate(t) -/
def itEnumT (x : Xe) : Xi where
  t g := iEnumT g.K (tCons (x.t g) tNil)
  ev a := (x.ev a).bind fun p => match p.1 with
    | .tuple ds => some (pairsD 0 ds, p.2)
    | _ => none
  ok g a d a' h p0 e he F I0 I σ H E R q := by
    obtain ⟨⟨d1, a1⟩, h1, h⟩ := Option.bind_eq_some_iff.mp h
    refine x.ok g a _ _ h1 p0 e he F I0 I σ H E _ fun v I1 H1 ds e1 E1 x1 hd ⟨ed, ha⟩ => ?_
    subst ed
    dsimp only at h
    split at h
    · rename_i ds _
      cases h
      obtain ⟨b, xs, rfl, hs, hds⟩ := dp_tup hd
      have hl := dpA_len hds
      refine ⟨b, xs, rfl, E1.ih.t hs, q _ I1 H1 _ _ _ e1 ⟨rfl, ha⟩ E1 x1 (by rw [pairsD_len, ← hl]; exact walk_enumT (K := g.K) (a := b) (xs := xs)) (fun H2 x => x.t hs) fun j H2 x H3 I2 hj x2 x3 y => ?_⟩
      obtain ⟨T, y1, y2, ev, hT, eH, g1, g2⟩ := y
      cases g1
      subst ev eH
      rw [pairsD_len] at hj
      obtain ⟨w, hw, hwd⟩ := dpA_get hds (List.getElem?_eq_getElem hj)
      have g2' : xs[j]? = some y2 := g2
      rw [hw] at g2'
      cases g2'
      refine ⟨.tuple [.int (0 + (j : Int)), ds[j]], ?_, .inr ⟨T, _, hT, rfl, ?_⟩⟩
      · unfold pairsD
        rw [List.getElem?_mapIdx, List.getElem?_eq_getElem hj]
        rfl
      · have x4 : Ex I2 (upd I2 T (.tup [.int (0 + (j : Int)), y2])) := Ex.new (x3.back hT)
        exact .tup (.inl (.inl upd_same)) (.cons (.int _) (.cons (dp_mono (x2.trans x4) hwd) .nil))
    · cases h
/-! ### dicts as data -/
def keyOf : PyData → Option Key
  | .int i => some (.inl i)
  | .str z => some (.inr z)
  | _ => none
theorem keyOf_D (k : Key) : keyOf (keyD k) = some k := by cases k <;> rfl
theorem keyOf_ok {K : PySem.W.Frag} {I : Hp} {v : V} {d : PyData} {k : Key} (h : keyOf d = some k) (hd : Dq K I v d) : v = kV k := by
  unfold keyOf at h
  split at h
  · cases h; exact dp_int hd
  · cases h; exact dp_str hd
  · cases h
/-- the pairs of a dict by keys -/
def ksOf : List (PyData × PyData) → Option (List (Key × PyData))
  | [] => some []
  | p :: r => (keyOf p.1).bind fun k => (ksOf r).bind fun ks => some ((k, p.2) :: ks)
def dctD (ks : List (Key × PyData)) : PyData := .dict (ks.map fun p => (keyD p.1, p.2))
theorem ksOf_D (ks : List (Key × PyData)) : ksOf (ks.map fun p => (keyD p.1, p.2)) = some ks := by
  induction ks with
  | nil => rfl
  | cons p r ih =>
    show ((keyOf (keyD p.1)).bind fun k => (ksOf (r.map fun p => (keyD p.1, p.2))).bind fun ks => some ((k, p.2) :: ks)) = _
    rw [keyOf_D, ih]
    rfl
theorem dp_dct {K : PySem.W.Frag} {I : Hp} {v : V} {kvs : List (PyData × PyData)} {ks : List (Key × PyData)} (h : Dq K I v (.dict kvs)) (hk : ksOf kvs = some ks) : ∃ (a : Addr) (od : Obj) (ws : List (Key × V)), v = .ref a ∧ I a = some (.frz od (.dK ws)) ∧ ws.map (·.1) = ks.map (·.1) ∧ DqAll K I (ws.map (·.2)) (ks.map (·.2)) := by
  cases h with
  | dct h1 h2 h3 h4 =>
    subst h2
    rw [ksOf_D] at hk
    cases hk
    exact ⟨_, _, _, rfl, h1, h3, h4⟩
def valD (ks : List (Key × PyData)) (k : Key) : Option PyData := match ks with
  | [] => none
  | p :: r => if p.1 = k then some p.2 else valD r k
theorem valD_some {K : PySem.W.Frag} {I : Hp} {k : Key} : ∀ {ws : List (Key × V)} {ks : List (Key × PyData)}, ws.map (·.1) = ks.map (·.1) → DqAll K I (ws.map (·.2)) (ks.map (·.2)) → match valD ks k with
    | some d => ∃ v, valV ws k = some v ∧ Dq K I v d
    | none => valV ws k = none
  | [], [], _, _ => rfl
  | [], _ :: _, h, _ => nomatch h
  | _ :: _, [], h, _ => nomatch h
  | w :: ws, p :: ks, h, hd => by
    rw [List.map_cons, List.map_cons] at h
    injection h with h1 h2
    rw [List.map_cons, List.map_cons] at hd
    cases hd with
    | cons d1 d2 =>
      unfold valD
      by_cases e : p.1 = k
      · rw [if_pos e]
        exact ⟨_, valV_pos (h1.trans e), d1⟩
      · rw [if_neg e, valV_neg fun z => e (h1.symm.trans z)]
        exact valD_some h2 d2
/-- d[k] -/
def Xe.dget (x y : Xe) : Xe where
  t g := tDGet (x.t g) (y.t g)
  ev a := (x.ev a).bind fun p => (y.ev p.2).bind fun q => match p.1 with
    | .dict kvs => (ksOf kvs).bind fun ks => (keyOf q.1).bind fun k => (valD ks k).bind fun d => some (d, q.2)
    | _ => none
  ok g a d a' h p0 e he F I0 I σ H E Q q := by
    obtain ⟨⟨d1, a1⟩, h1, h⟩ := Option.bind_eq_some_iff.mp h
    obtain ⟨⟨d2, a2⟩, h2, h⟩ := Option.bind_eq_some_iff.mp h
    dsimp only at h
    split at h
    · rename_i kvs
      obtain ⟨ks, h3, h⟩ := Option.bind_eq_some_iff.mp h
      obtain ⟨k, h4, h⟩ := Option.bind_eq_some_iff.mp h
      obtain ⟨d3, h5, h⟩ := Option.bind_eq_some_iff.mp h
      cases h
      refine x.ok g a _ _ h1 p0 e he F I0 I σ H E _ fun v I1 H1 z e1 E1 x1 hv ⟨ez, ha⟩ => ?_
      subst ez
      refine y.ok g _ _ _ h2 p0 e1 ha F I0 I1 σ H1 E1 _ fun w I2 H2 z e2 E2 x2 hw ⟨ez, ha2⟩ => ?_
      subst ez
      obtain ⟨b, od, ws, rfl, f1, f2, f3⟩ := dp_dct (dp_mono x2 hv) h3
      have f4 := valD_some (k := k) f2 f3
      rw [h5] at f4
      obtain ⟨u, f5, f6⟩ := f4
      refine ⟨b, u, rfl, .inl ⟨ws, k, .inr ⟨od, E2.ih _ _ f1⟩, keyOf_ok h4 hw, f5.symm⟩, q u I2 H2 _ e2 E2 (x1.trans x2) f6 ⟨rfl, ha2⟩⟩
    · cases h
/-- k in d, k not in d -/
def Xe.din (neg : Bool) (y x : Xe) : Xe where
  t g := if neg then tDNotIn (y.t g) (x.t g) else tDIn (y.t g) (x.t g)
  ev a := (y.ev a).bind fun q => (x.ev q.2).bind fun p => match p.1 with
    | .dict kvs => (ksOf kvs).bind fun ks => (keyOf q.1).bind fun k => some (.bool (if neg then !(valD ks k).isSome else (valD ks k).isSome), p.2)
    | _ => none
  ok g a d a' h p0 e he F I0 I σ H E Q q := by
    obtain ⟨⟨d1, a1⟩, h1, h⟩ := Option.bind_eq_some_iff.mp h
    obtain ⟨⟨d2, a2⟩, h2, h⟩ := Option.bind_eq_some_iff.mp h
    dsimp only at h
    split at h
    · rename_i kvs
      obtain ⟨ks, h3, h⟩ := Option.bind_eq_some_iff.mp h
      obtain ⟨k, h4, h⟩ := Option.bind_eq_some_iff.mp h
      cases h
      have go : ∀ (v w : V) (I1 H1 I2 H2 : Hp) (e1 e2 : Env), EnvI g.K F I0 I2 σ H2 e2 → Ex I I1 → Ex I1 I2 → Dq g.K I1 w d1 → Dq g.K I2 v (.dict kvs) → Ab p0 e2 a' → ∃ b o, v = .ref b ∧ DGet H2 b w o ∧ Q (.bl (if neg = true then !o.isSome else o.isSome)) H2 := fun v w I1 H1 I2 H2 e1 e2 E2 x1 x2 hw hv ha2 => by
        obtain ⟨b, od, ws, rfl, f1, f2, f3⟩ := dp_dct hv h3
        have f4 := valD_some (k := k) f2 f3
        refine ⟨b, valV ws k, rfl, .inl ⟨ws, k, .inr ⟨od, E2.ih _ _ f1⟩, keyOf_ok h4 hw, rfl⟩, ?_⟩
        have e : (valV ws k).isSome = (valD ks k).isSome := by
          cases z : valD ks k with
          | none => rw [z] at f4; rw [show valV ws k = none from f4]; rfl
          | some dd =>
            rw [z] at f4
            obtain ⟨u, f5, _⟩ := f4
            rw [f5]; rfl
        rw [e]
        exact q _ I2 H2 _ e2 E2 (x1.trans x2) (.bl _) ⟨rfl, ha2⟩
      cases neg with
      | true =>
        refine y.ok g a _ _ h1 p0 e he F I0 I σ H E _ fun w I1 H1 z e1 E1 x1 hw ⟨ez, ha⟩ => ?_
        subst ez
        refine x.ok g _ _ _ h2 p0 e1 ha F I0 I1 σ H1 E1 _ fun v I2 H2 z e2 E2 x2 hv ⟨ez, ha2⟩ => ?_
        subst ez
        exact go v w I1 H1 I2 H2 e1 e2 E2 x1 x2 hw hv ha2
      | false =>
        refine y.ok g a _ _ h1 p0 e he F I0 I σ H E _ fun w I1 H1 z e1 E1 x1 hw ⟨ez, ha⟩ => ?_
        subst ez
        refine x.ok g _ _ _ h2 p0 e1 ha F I0 I1 σ H1 E1 _ fun v I2 H2 z e2 E2 x2 hv ⟨ez, ha2⟩ => ?_
        subst ez
        exact go v w I1 H1 I2 H2 e1 e2 E2 x1 x2 hw hv ha2
    · cases h
end Px

set_option Elab.async false
set_option linter.all false
set_option autoImplicit false
set_option maxRecDepth 100000
set_option maxHeartbeats 4000000
/-! Dicts made and let go, what walks them; slices; the rest. -/
namespace Px
open PySem PySem.Spec PyProof.Rows L2 Lw
/-- behind it what stands at d is locked -/
def tPL (t : TE) : TE := fun σ H Q => t σ H fun v H1 => ∃ d u, v = .ref d ∧ H1 d = some u ∧ Mut (some u) ∧ ∀ od, Q v (upd H1 d (.frz od u))
theorem pe_pl {X : Cx} {e : Expr} {t : TE} (h : PE X e t) : PE X e (tPL t) := by
  refine ⟨fun pins s σ H Q I hw => thn (h.run pins s σ H _ I hw) fun v s1 ⟨x, H1, I1, r1, q1⟩ => ?_⟩
  obtain ⟨d, u, rfl, hd, mu, q⟩ := q1
  obtain ⟨od, I2⟩ := I1.lock hd mu
  exact ⟨_, _, I2, r1, q od⟩
section
variable {K : PySem.W.Frag} {F I0 I I' H H' : Hp} {σ : L2.St} {env : Env}
def putD (ks : List (Key × PyData)) (k : Key) (d : PyData) : List (Key × PyData) := if (ks.any fun p => decide (p.1 = k)) = true then ks.map (fun p => if p.1 = k then (p.1, d) else p) else ks ++ [(k, d)]
theorem putD_any {k : Key} : ∀ {ws : List (Key × V)} {ks : List (Key × PyData)}, ws.map (·.1) = ks.map (·.1) → (ws.any fun p => decide (p.1 = k)) = ks.any fun p => decide (p.1 = k)
  | [], [], _ => rfl
  | [], _ :: _, h => nomatch h
  | _ :: _, [], h => nomatch h
  | w :: ws, p :: ks, h => by
    rw [List.map_cons, List.map_cons] at h
    injection h with h1 h2
    rw [List.any_cons, List.any_cons, putD_any h2, h1]
theorem put_map {k : Key} {v : V} {d : PyData} (hd : Dq K I v d) : ∀ {ws : List (Key × V)} {ks : List (Key × PyData)}, ws.map (·.1) = ks.map (·.1) → DqAll K I (ws.map (·.2)) (ks.map (·.2)) →
    (ws.map fun p => if p.1 = k then (p.1, v) else p).map (·.1) = (ks.map fun p => if p.1 = k then (p.1, d) else p).map (·.1) ∧ DqAll K I ((ws.map fun p => if p.1 = k then (p.1, v) else p).map (·.2)) ((ks.map fun p => if p.1 = k then (p.1, d) else p).map (·.2))
  | [], [], _, _ => ⟨rfl, .nil⟩
  | [], _ :: _, h, _ => nomatch h
  | _ :: _, [], h, _ => nomatch h
  | w :: ws, p :: ks, h, ha => by
    rw [List.map_cons, List.map_cons] at h
    injection h with h1 h2
    rw [List.map_cons, List.map_cons] at ha
    cases ha with
    | cons d1 d2 =>
      obtain ⟨r1, r2⟩ := put_map hd h2 d2
      by_cases e : p.1 = k
      · have e' : w.1 = k := h1.trans e
        simp only [List.map_cons, if_pos e, if_pos e']
        exact ⟨by rw [h1, r1], .cons hd r2⟩
      · have e' : ¬ w.1 = k := fun z => e (h1.symm.trans z)
        simp only [List.map_cons, if_neg e, if_neg e']
        exact ⟨by rw [h1, r1], .cons d1 r2⟩
theorem put_ok {k : Key} {v : V} {d : PyData} {ws : List (Key × V)} {ks : List (Key × PyData)} (hd : Dq K I v d) (h : ws.map (·.1) = ks.map (·.1)) (ha : DqAll K I (ws.map (·.2)) (ks.map (·.2))) :
    (putK ws k v).map (·.1) = (putD ks k d).map (·.1) ∧ DqAll K I ((putK ws k v).map (·.2)) ((putD ks k d).map (·.2)) := by
  unfold putK putD
  rw [putD_any h]
  split
  · exact put_map hd h ha
  · rw [List.map_append, List.map_append, List.map_append, List.map_append, h]
    exact ⟨rfl, dpA_app ha (.cons hd .nil)⟩
theorem putD_len (ks : List (Key × PyData)) (k : Key) (d : PyData) : (putD ks k d).length ≤ ks.length + 1 := by
  unfold putD
  split
  · rw [List.length_map]; omega
  · rw [List.length_append]; simp
/-- an own dict becomes data, locked -/
theorem EnvI.freezeK (E : EnvI K F I0 I σ H env) {k : Nat} {p : Addr} {ks : List (Key × PyData)} (hk : env[k]? = some (some (.dct p ks))) : ∃ ws, σ[k]? = some (some (.ref p)) ∧ H p = some (.dK ws) ∧
    ∀ od, ∃ I', Ex I I' ∧ EnvI K F I0 I' σ (upd H p (.frz od (.dK ws))) (env.set k (some (.dat (dctD ks)))) ∧ Dq K I' (.ref p) (dctD ks) := by
  have kl : k < env.length := (List.getElem?_eq_some_iff.mp hk).1
  obtain ⟨v, hs, rfl, hF, hI, ws, hH, hn, hd⟩ := E.at_ k _ hk
  refine ⟨ws, hs, hH, fun od => ?_⟩
  have E1 : EnvI K F I0 I σ H (env.set k none) := E.forget (by rw [List.length_set]) fun i x h => by
    by_cases e : k = i
    · subst e
      rw [List.getElem?_set_self kl] at h
      cases h
    · rwa [List.getElem?_set_ne e] at h
  have hc : ∀ (j : Nat) (y : Lw.Val), (env.set k none)[j]? = some (some y) → isCell y = true → σ[j]? ≠ some (some (.ref p)) := fun j y h c q => by
    by_cases e : k = j
    · subst e
      rw [List.getElem?_set_self kl] at h
      cases h
    · rw [List.getElem?_set_ne e] at h
      exact E.ne k j _ y e hk h rfl c (hs.trans q.symm)
  have x1 : Ex I (upd I p (.frz od (.dK ws))) := Ex.new hI
  have E2 := EnvI.toLocked E1 (o' := .frz od (.dK ws)) hF hI hH hc
  have dd : Dq K (upd I p (.frz od (.dK ws))) (.ref p) (dctD ks) := .dct upd_same rfl hn (dpA_mono x1 hd)
  refine ⟨_, x1, ?_, dd⟩
  have E3 := E2.setD k dd
  have e1 : σ.set k (some (.ref p)) = σ := by
    apply List.ext_getElem?
    intro i
    by_cases e : k = i
    · subst e
      rw [List.getElem?_set_self (by rw [← E.len]; exact kl), hs]
    · rw [List.getElem?_set_ne e]
  rw [e1, List.set_set] at E3
  exact E3
end
/-- x, an own dict, as data -/
def Xe.varD (i : Nat) : Xe where
  t _ := tPL (tVar i)
  ev a := match gt a i with
    | some (.dct ks) => some (dctD ks, st a i (some (.dat (dctD ks))))
    | _ => none
  ok g a d a' h p0 e he F I0 I σ H E Q q := by
    split at h
    · rename_i ks hks
      cases h
      obtain ⟨p, hp⟩ := he.dct hks
      obtain ⟨ws, hs, hH, hz⟩ := EnvI.freezeK E hp
      refine ⟨.ref p, hs, p, _, rfl, hH, True.intro, fun od => ?_⟩
      obtain ⟨I', x1, E1, dd⟩ := hz od
      exact q _ I' _ _ _ E1 x1 dd ⟨rfl, he.set i (.dat _)⟩
    · cases h
/-- x = {} -/
def Xs.newK (i : Nat) : Xs where
  t _ := tAsg tDNewK (gName i)
  run a := some (.nx (st a i (some (.dct []))))
  ok g a o h p0 e he F I0 I σ H D E A := by
    cases h
    intro p hp
    exact A.nx I _ _ _ (E.setC (x := .dct p []) i hp ⟨rfl, E.fh.back hp, E.ih.back hp, [], upd_same, rfl, .nil⟩) ⟨_, rfl, he.set i (.dct _ _)⟩
/-- d[k] = x, d one's own -/
def Xs.dput (i : Nat) (k x : Xe) : Xs where
  t g := sDPut (tVar i) (k.t g) (x.t g)
  run a := (x.ev a).bind fun p => (k.ev p.2).bind fun q => match gt p.2 i, gt q.2 i with
    | some (.dct _), some (.dct ks) => (keyOf q.1).bind fun kk => if ks.length < 100000 then some (.nx (st q.2 i (some (.dct (putD ks kk p.1))))) else none
    | _, _ => none
  ok g a o h p0 e he F I0 I σ H D E A := by
    obtain ⟨⟨d1, a1⟩, h1, h⟩ := Option.bind_eq_some_iff.mp h
    obtain ⟨⟨d2, a2⟩, h2, h⟩ := Option.bind_eq_some_iff.mp h
    dsimp only at h
    split at h
    · rename_i ks0 ks g1 g2
      obtain ⟨kk, h3, h⟩ := Option.bind_eq_some_iff.mp h
      split at h
      · rename_i hl
        cases h
        refine x.ok g a _ _ h1 p0 e he F I0 I σ H E _ fun y I1 H1 d e1 E1 x1 hy ⟨ed, ha⟩ => ?_
        subst ed
        obtain ⟨p, hp⟩ := ha.dct g1
        obtain ⟨v, hs, ev0, _⟩ := E1.at_ i _ hp
        subst ev0
        refine ⟨.ref p, hs, k.ok g _ _ _ h2 p0 e1 ha F I0 I1 σ H1 E1 _ fun w I2 H2 kd e2 E2 x2 hw ⟨ek, ha2⟩ => ?_⟩
        subst ek
        obtain ⟨p', hp'⟩ := ha2.dct g2
        obtain ⟨v', hs', ev', hf', hi', ws, hh', hn, hd⟩ := E2.at_ i _ hp'
        subst ev'
        rw [hs] at hs'
        cases hs'
        obtain ⟨r1, r2⟩ := put_ok (k := kk) (dp_mono x2 hy) hn hd
        have hlen : ws.length = ks.length := by simpa using congrArg List.length hn
        refine ⟨p, _, rfl, .inl ⟨ws, kk, hh', keyOf_ok h3 hw, Nat.lt_of_lt_of_le (by rw [hlen]; exact hl) (by decide), rfl⟩, ?_⟩
        exact A.nx I2 σ _ _ (E2.putC (y := .dct p (putD ks kk _)) hp' rfl hs hi' hf' ⟨rfl, hf', hi', _, upd_same, r1, r2⟩) ⟨_, rfl, ha2.set i (.dct _ _)⟩
      · cases h
    · cases h
def dcA (g : Xg) (k x : Xe) (vs : List Nat) : List PyData → List (Key × PyData) → AE → Option (List (Key × PyData) × AE)
  | [], acc, a => some (acc, a)
  | d :: ds, acc, a => (g.ev d a).bind fun a1 => (k.ev a1).bind fun p => (x.ev p.2).bind fun q => (keyOf p.1).bind fun kk => dcA g k x vs ds (putD acc kk q.1) (wp q.2 vs)
/-- {k: x for g in it}, as data -/
def Xe.dc (it : Xi) (g : Xg) (k x : Xe) (vs : List Nat) (hg : ∀ G, OwnG (g.t G) vs) : Xe where
  t G := tPL (tDc (it.t G) (g.t G) tYes (k.t G) (x.t G) vs)
  ev a := (it.ev a).bind fun p => if p.1.length ≤ 50000 then (dcA g k x vs p.1 [] (wp p.2 vs)).bind fun r => some (dctD r.1, r.2) else none
  ok G a d a' h p0 e he F I0 I σ H E Q q := by
    obtain ⟨⟨ds, a1⟩, h1, h⟩ := Option.bind_eq_some_iff.mp h
    split at h
    case isFalse => cases h
    rename_i hn
    obtain ⟨⟨kf, af⟩, h2, h⟩ := Option.bind_eq_some_iff.mp h
    cases h
    refine it.ok G a _ _ h1 p0 e he F I0 I σ H E _ fun J I1 H1 GG Y ds' e0 ⟨ed, ha⟩ E1 x1 W hG hY => fun D hD => ?_
    subst ed
    have hn : ds'.length ≤ 50000 := hn
    have hF : F D = none := E1.fh.back hD
    have h0D : I0 D = none := (E1.oi.trans E1.ih).back hD
    have start_ : EnvI G.K (upd F D (.dK [])) I0 I1 (wipe σ vs) (upd H1 D (.dK [])) (wipeE e0 vs) := (E1.guard (o := .dK []) hD).wiped vs
    let Pv : Nat → Hp → Prop := fun j H' => ∃ I' e a2 acc ks, EnvI G.K (upd F D (.dK acc)) I0 I' (wipe σ vs) H' e ∧ Ex I1 I' ∧ acc.map (·.1) = ks.map (·.1) ∧ DqAll G.K I' (acc.map (·.2)) (ks.map (·.2)) ∧ ks.length ≤ j ∧ wipeE e vs = e ∧ Ab p0 e a2 ∧ dcA g k x vs (ds'.drop j) ks a2 = some (kf, af)
    refine ⟨fun j m H' => m = ds'.length - j ∧ j ≤ ds'.length ∧ Pv j H', ⟨ds'.length, by simp, Nat.zero_le _, I1, _, _, [], [], start_, Ex.refl _, rfl, .nil, Nat.le_refl _, wipeE_idem _ _, ha.wp vs, h2⟩, ?_⟩
    rintro j m H' ⟨rfl, hj, I', e2, a2, acc, ks, E', x', hk1, hk2, hkl, hwe, hab, hdc⟩
    have hGH := hG H' (x'.trans E'.ih)
    by_cases hlt : j < ds'.length
    · refine .inr ⟨W.goes j H' hlt hGH, Pv (j + 1), fun H2 p => ⟨ds'.length - (j + 1), by omega, rfl, hlt, p⟩, fun y H3 hy => ?_⟩
      obtain ⟨d, hdj, hx⟩ := hY j H' y H3 I' hlt x' E'.ih (W.yields j H' y H3 hlt hGH hy)
      have hdj' : ds'[j] = d := (List.getElem?_eq_some_iff.mp hdj).2
      rw [List.drop_eq_getElem_cons hlt, hdj', dcA] at hdc
      obtain ⟨a3, g1, hdc⟩ := Option.bind_eq_some_iff.mp hdc
      obtain ⟨⟨kd, a4⟩, g2, hdc⟩ := Option.bind_eq_some_iff.mp hdc
      obtain ⟨⟨vd, a5⟩, g3, hdc⟩ := Option.bind_eq_some_iff.mp hdc
      obtain ⟨kk, g4, hdc4⟩ := Option.bind_eq_some_iff.mp hdc
      have go : ∀ I3, Ex I' I3 → EnvI G.K (upd F D (.dK acc)) I0 I3 (wipe σ vs) H3 e2 → Dq G.K I3 y d → (g.t G) y (wipe σ vs) H3 fun σ2 H2 => wipe σ2 vs = wipe σ vs ∧ tYes σ2 H2 fun b H3 =>
          if b = true then (k.t G) σ2 H3 fun y H4 => (x.t G) σ2 H4 fun z H5 => ∃ kvs k, y = kV k ∧ H5 D = some (.dK kvs) ∧ kvs.length < sizeLine ∧ Pv (j + 1) (upd H5 D (.dK (putK kvs k z))) else Pv (j + 1) H3 := fun I3 x3 E3 hxd => by
        refine hg G (wipe σ vs) y (wipe σ vs) H3 _ (wipe_idem σ vs) (g.ok G _ _ _ g1 p0 e2 hab _ I0 I3 (wipe σ vs) H3 y E3 hxd _ fun σ2 e3 E2 hab3 _ hw2 => ?_)
        dsimp only [tYes]
        rw [if_pos rfl]
        refine k.ok G _ _ _ g2 p0 e3 hab3 _ I0 I3 σ2 H3 E2 _ fun y I4 H4 c e4 E4 x4 hy4 ⟨z1, hab4⟩ => ?_
        subst z1
        refine x.ok G _ _ _ g3 p0 e4 hab4 _ I0 I4 σ2 H4 E4 _ fun z I5 H5 c e5 E5 x5 hz5 ⟨z1, hab5⟩ => ?_
        subst z1
        have hIs : Ex I' I5 := (x3.trans x4).trans x5
        obtain ⟨r1, r2⟩ := put_ok (k := kk) hz5 hk1 (dpA_mono hIs hk2)
        have hlen : acc.length = ks.length := by simpa using congrArg List.length hk1
        refine ⟨acc, kk, keyOf_ok g4 hy4, E5.fh D _ upd_same, Nat.lt_of_lt_of_le (show acc.length < 50000 by omega) (by decide), I5, wipeE e5 vs, _, putK acc kk z, putD ks kk _, ?_, x'.trans hIs, r1, r2, Nat.le_trans (putD_len _ _ _) (by omega), wipeE_idem _ _, hab5.wp vs, hdc4⟩
        have zz := (E5.guardPut (o' := .dK (putK acc kk z)) h0D).wiped vs
        rw [hw2] at zz
        exact zz
      rcases hx with ⟨eH, hxd⟩ | ⟨T, o, hT, eH, hxd⟩
      · subst eH
        exact go I' (Ex.refl _) E' hxd
      · subst eH
        exact go _ (Ex.new (E'.ih.back hT)) (E'.newD hT) hxd
    · have e : j = ds'.length := by omega
      subst e
      refine .inl ⟨W.stops H' hGH, ?_⟩
      rw [List.drop_length, dcA] at hdc
      cases hdc
      obtain ⟨hI, hH, E2, hc⟩ := EnvI.unguardF E' hF h0D
      have E3 := E2.unwiped
      have hc3 : ∀ (i : Nat) (y : Lw.Val), e2[i]? = some (some y) → isCell y = true → σ[i]? ≠ some (some (.ref D)) := fun i y h cy => by
        have z := hc i y h cy
        obtain ⟨v, h1, _⟩ := E2.at_ i y h
        rw [h1] at z
        rw [(wipe_some h1).1]
        exact z
      refine ⟨D, _, rfl, hH, True.intro, fun od => ?_⟩
      have x2 : Ex I' (upd I' D (.frz od (.dK acc))) := Ex.new hI
      exact q _ _ _ _ _ (EnvI.toLocked E3 (o' := .frz od (.dK acc)) hF hI hH hc3) ((x1.trans x').trans x2) (.dct upd_same rfl hk1 (dpA_mono x2 hk2)) ⟨rfl, hab⟩
/-! ### walks over dicts -/
def itVals (x : Xe) : Xi where
  t g := iVals (x.t g)
  ev a := (x.ev a).bind fun p => match p.1 with
    | .dict kvs => (ksOf kvs).bind fun ks => some (ks.map (·.2), p.2)
    | _ => none
  ok g a d a' h p0 e he F I0 I σ H E R q := by
    obtain ⟨⟨d1, a1⟩, h1, h⟩ := Option.bind_eq_some_iff.mp h
    refine x.ok g a _ _ h1 p0 e he F I0 I σ H E _ fun v I1 H1 ds e1 E1 x1 hd ⟨ed, ha⟩ => ?_
    subst ed
    dsimp only at h
    split at h
    · obtain ⟨ks, h3, h⟩ := Option.bind_eq_some_iff.mp h
      cases h
      obtain ⟨b, od, ws, rfl, f1, f2, f3⟩ := dp_dct hd h3
      have hlen : ws.length = ks.length := by simpa using congrArg List.length f2
      refine ⟨b, od, ws, rfl, E1.ih _ _ f1, q _ I1 H1 _ _ _ e1 ⟨rfl, ha⟩ E1 x1 (by rw [List.length_map, ← hlen]; exact walk_values (d := b) (o := od) (kvs := ws)) (fun H2 x => x _ _ f1) fun j H2 y H3 I2 hj x2 x3 yy => ?_⟩
      obtain ⟨eH, k, ek⟩ := yy
      obtain ⟨w, hw, hwd⟩ := dpA_get f3 (List.getElem?_eq_getElem hj)
      rw [List.getElem?_map, ek] at hw
      cases hw
      exact ⟨_, List.getElem?_eq_getElem hj, .inl ⟨eH, dp_mono x2 hwd⟩⟩
    · cases h
def itKeys (x : Xe) : Xi where
  t g := iKeys (x.t g)
  ev a := (x.ev a).bind fun p => match p.1 with
    | .dict kvs => (ksOf kvs).bind fun ks => some (ks.map (fun q => keyD q.1), p.2)
    | _ => none
  ok g a d a' h p0 e he F I0 I σ H E R q := by
    obtain ⟨⟨d1, a1⟩, h1, h⟩ := Option.bind_eq_some_iff.mp h
    refine x.ok g a _ _ h1 p0 e he F I0 I σ H E _ fun v I1 H1 ds e1 E1 x1 hd ⟨ed, ha⟩ => ?_
    subst ed
    dsimp only at h
    split at h
    · obtain ⟨ks, h3, h⟩ := Option.bind_eq_some_iff.mp h
      cases h
      obtain ⟨b, od, ws, rfl, f1, f2, f3⟩ := dp_dct hd h3
      have hlen : ws.length = ks.length := by simpa using congrArg List.length f2
      refine ⟨b, od, rfl, .inl ⟨ws, E1.ih _ _ f1, q _ I1 H1 _ _ _ e1 ⟨rfl, ha⟩ E1 x1 (by rw [List.length_map, ← hlen]; exact walk_keys (d := b) (o := od) (kvs := ws)) (fun H2 x => x _ _ f1) fun j H2 y H3 I2 hj x2 x3 yy => ?_⟩⟩
      obtain ⟨eH, k, w, ek, ey⟩ := yy
      have e2 : (ks.map (·.1))[j]? = some k := by rw [← f2, List.getElem?_map, ek]; rfl
      subst ey
      refine ⟨keyD k, ?_, .inl ⟨eH, ?_⟩⟩
      · rw [List.getElem?_map] at e2 ⊢
        cases z : ks[j]? with
        | none => rw [z] at e2; cases e2
        | some p => rw [z] at e2; cases e2; rfl
      · cases k with
        | inl i => exact .int i
        | inr z => exact .str z
    · cases h
/-! ### slices -/
structure Xq where
  t : Gx → TO
  lo : AE → Option (Option Int × AE)
  ok : ∀ g a o a', lo a = some (o, a') → ∀ p0 e, Ab p0 e a → ∀ (F I0 I : Hp) (σ : L2.St) (H : Hp), EnvI g.K F I0 I σ H e → ∀ Q : Option Int → Hp → Prop, (∀ (I' H' : Hp) (e' : Env), EnvI g.K F I0 I' σ H' e' → Ex I I' → Ab p0 e' a' → Q o H') → t g σ H Q
def Xq.none : Xq where
  t _ := tNoPart
  lo a := some (Option.none, a)
  ok g a o a' h p0 e he F I0 I σ H E Q q := by
    cases h
    exact eo_none F I0 I σ H E Q fun I' H' E' x => q I' H' e E' x he
def Xq.some (x : Xe) : Xq where
  t g := tPart (x.t g)
  lo a := (x.ev a).bind fun p => match p.1 with
    | .int i => Option.some (Option.some i, p.2)
    | _ => Option.none
  ok g a o a' h p0 e he F I0 I σ H E Q q := by
    obtain ⟨⟨d1, a1⟩, h1, h⟩ := Option.bind_eq_some_iff.mp h
    refine x.ok g a _ _ h1 p0 e he F I0 I σ H E _ fun v I1 H1 ds e1 E1 x1 hd ⟨ed, ha⟩ => ?_
    subst ed
    dsimp only at h
    split at h
    · cases h
      cases dp_int hd
      exact ⟨_, rfl, q I1 H1 e1 E1 x1 ha⟩
    · cases h
structure Xl where
  r : Gx → V → Option Int → Option Int → Hp → VK → Prop
  f : PyData → Option Int → Option Int → Option PyData
  ok : ∀ g a lo hi c, f a lo hi = some c → RSl g.K (r g) a lo hi c
def slL : Xl where
  r g := rSlL g.K
  f a lo hi := match a with
    | .list ds => some (.list (cutD ds lo hi))
    | _ => none
  ok g a lo hi c h := by
    split at h
    · cases h
      exact rsl_lst
    · cases h
def slT : Xl where
  r g := rSlA g.K
  f a lo hi := match a with
    | .tuple ds => some (.tuple (cutD ds lo hi))
    | _ => none
  ok g a lo hi c h := by
    split at h
    · cases h
      exact rsl_tup
    · cases h
def slS : Xl where
  r _ := rSlS
  f a lo hi := match a with
    | .str z => if z.length ≤ 100000 then some (.str (cutS z lo hi)) else none
    | _ => none
  ok g a lo hi c h := by
    split at h
    · split at h
      · rename_i hl
        cases h
        exact rsl_str hl
      · cases h
    · cases h
def Xe.sl (l : Xl) (x : Xe) (lo hi : Xq) : Xe where
  t g := tSl (l.r g) (x.t g) (lo.t g) (hi.t g)
  ev a := (x.ev a).bind fun p => (lo.lo p.2).bind fun o => (hi.lo o.2).bind fun u => (l.f p.1 o.1 u.1).bind fun c => some (c, u.2)
  ok g a d a' h p0 e he F I0 I σ H E Q q := by
    obtain ⟨⟨d1, a1⟩, h1, h⟩ := Option.bind_eq_some_iff.mp h
    obtain ⟨⟨o1, a2⟩, h2, h⟩ := Option.bind_eq_some_iff.mp h
    obtain ⟨⟨o2, a3⟩, h3, h⟩ := Option.bind_eq_some_iff.mp h
    obtain ⟨c, h4, h⟩ := Option.bind_eq_some_iff.mp h
    cases h
    refine x.ok g a _ _ h1 p0 e he F I0 I σ H E _ fun v I1 H1 ds e1 E1 x1 hd ⟨ed, ha⟩ => ?_
    subst ed
    refine lo.ok g _ _ _ h2 p0 e1 ha F I0 I1 σ H1 E1 _ fun I2 H2 e2 E2 x2 ha2 => ?_
    refine hi.ok g _ _ _ h3 p0 e2 ha2 F I0 I2 σ H2 E2 _ fun I3 H3 e3 E3 x3 ha3 => ?_
    exact l.ok g _ _ _ _ h4 I3 H3 v E3.ih (dp_mono (x2.trans x3) hd) Q (fun v hv => q v I3 H3 _ _ E3 ((x1.trans x2).trans x3) hv ⟨rfl, ha3⟩) fun p o hp hv =>
      q (.ref p) _ _ _ _ (E3.newD hp) (((x1.trans x2).trans x3).trans (Ex.new (E3.ih.back hp))) hv ⟨rfl, ha3⟩
/-- xs[::-1] -/
def Xe.rev (x : Xe) : Xe where
  t g := tRevL g.K (x.t g)
  ev a := (x.ev a).bind fun p => match p.1 with
    | .list ds => some (.list ds.reverse, p.2)
    | _ => none
  ok g a d a' h p0 e he F I0 I σ H E Q q := by
    obtain ⟨⟨d1, a1⟩, h1, h⟩ := Option.bind_eq_some_iff.mp h
    refine x.ok g a _ _ h1 p0 e he F I0 I σ H E _ fun v I1 H1 ds e1 E1 x1 hd ⟨ed, ha⟩ => ?_
    subst ed
    dsimp only at h
    split at h
    · cases h
      obtain ⟨b, xs, rfl, hs, hds⟩ := dp_lst hd
      refine ⟨b, xs, rfl, E1.ih.l (.inl (.inl hs)), fun p hp => ?_⟩
      have x2 : Ex I1 (upd I1 p (.lst xs.reverse)) := Ex.new (E1.ih.back hp)
      have rv : ∀ {vs : List V} {es : List PyData}, DqAll g.K I1 vs es → DqAll g.K I1 vs.reverse es.reverse := fun {vs es} => by
        induction es generalizing vs with
        | nil => intro h; cases h; exact .nil
        | cons e es ih =>
          intro h
          cases h with
          | cons h1 h2 =>
            rw [List.reverse_cons, List.reverse_cons]
            exact dpA_app (ih h2) (.cons h1 .nil)
      exact q _ _ _ _ _ (E1.newD hp) (x1.trans x2) (.lst upd_same (dpA_mono x2 (rv hds))) ⟨rfl, ha⟩
    · cases h
/-- x or y, x a list, a tuple or flat -/
def truF : PyData → Option Bool
  | .list ds => some (!ds.isEmpty)
  | .tuple ds => some (!ds.isEmpty)
  | .bool b => some b
  | .int i => some (i != 0)
  | .none => some false
  | .str z => if z.length ≤ 100000 then some ((z.length : Int) != 0) else none
  | _ => none
theorem truF_ok {K : PySem.W.Frag} {I H : Hp} {v : V} {d : PyData} {k : Bool} (h : truF d = some k) (x : Ex I H) (hd : Dq K I v d) : TruV K v H k := by
  have em : ∀ {vs : List V} {ds : List PyData}, DqAll K I vs ds → (!vs.isEmpty) = !ds.isEmpty := fun h => by cases h <;> rfl
  cases hd with
  | non => cases h; rfl
  | bl b => cases h; rfl
  | int i => cases h; rfl
  | str z =>
    have h : (if z.length ≤ 100000 then some ((z.length : Int) != 0) else none) = some k := h
    split at h
    · rename_i hl
      cases h
      exact ⟨Nat.le_trans hl (by decide), rfl⟩
    · cases h
  | lst h1 h2 =>
    cases h
    exact .inl ⟨_, x.l (.inl (.inl h1)), (em h2).symm⟩
  | tup h1 h2 =>
    cases h
    exact .inr (.inl ⟨_, x.t h1, (em h2).symm⟩)
  | dct _ _ _ _ => cases h
def Xe.orT (x y : Xe) : Xe where
  t g := tOrT g.K (x.t g) (y.t g)
  ev a := (x.ev a).bind fun p => (truF p.1).bind fun k => if k = true then some p else y.ev p.2
  ok g a d a' h p0 e he F I0 I σ H E Q q := by
    obtain ⟨⟨d1, a1⟩, h1, h⟩ := Option.bind_eq_some_iff.mp h
    obtain ⟨k, h2, h⟩ := Option.bind_eq_some_iff.mp h
    refine x.ok g a _ _ h1 p0 e he F I0 I σ H E _ fun v I1 H1 ds e1 E1 x1 hd ⟨ed, ha⟩ => ?_
    subst ed
    refine ⟨k, truF_ok h2 E1.ih hd, ?_⟩
    split at h
    · rename_i hk
      cases h
      rw [if_pos hk]
      exact q v I1 H1 _ e1 E1 x1 hd ⟨rfl, ha⟩
    · rename_i hk
      rw [if_neg hk]
      exact y.ok g _ _ _ h p0 e1 ha F I0 I1 σ H1 E1 _ fun w I2 H2 z e2 E2 x2 hw ⟨ez, ha2⟩ => q w I2 H2 z e2 E2 (x1.trans x2) hw ⟨ez, ha2⟩
end Px

set_option Elab.async false
set_option linter.all false
set_option autoImplicit false
set_option maxRecDepth 100000
set_option maxHeartbeats 4000000
/-! The script; two at once; a law's own body; promises of Lw's logic. -/
namespace Px
open PySem PySem.Spec PyProof.Rows L2 Lw
def Xe.neg (x : Xe) : Xe where
  t g := tUn (rU fun i => .int (-i)) (x.t g)
  ev a := (x.ev a).bind fun p => match p.1 with
    | .int i => some (.int (-i), p.2)
    | _ => none
  ok g a d a' h p0 e he F I0 I σ H E Q q := by
    obtain ⟨⟨d1, a1⟩, h1, h⟩ := Option.bind_eq_some_iff.mp h
    refine x.ok g a _ _ h1 p0 e he F I0 I σ H E _ fun v I1 H1 ds e1 E1 x1 hd ⟨ed, ha⟩ => ?_
    subst ed
    dsimp only at h
    split at h
    · cases h
      cases dp_int hd
      exact ⟨_, rfl, q _ I1 H1 _ e1 E1 x1 (.int _) ⟨rfl, ha⟩⟩
    · cases h
def Xe.notV (x : Xe) : Xe where
  t g := tNotV (x.t g)
  ev a := (x.ev a).bind fun p => match p.1 with
    | .bool b => some (.bool (!b), p.2)
    | _ => none
  ok g a d a' h p0 e he F I0 I σ H E Q q := by
    obtain ⟨⟨d1, a1⟩, h1, h⟩ := Option.bind_eq_some_iff.mp h
    refine x.ok g a _ _ h1 p0 e he F I0 I σ H E _ fun v I1 H1 ds e1 E1 x1 hd ⟨ed, ha⟩ => ?_
    subst ed
    dsimp only at h
    split at h
    · cases h
      cases dp_bl hd
      exact ⟨_, rfl, q _ I1 H1 _ e1 E1 x1 (.bl _) ⟨rfl, ha⟩⟩
    · cases h
/-- len(script) -/
def Xe.lenSeq (i : Nat) : Xe where
  t g := tCB (fun xs H Q => ∃ x n, xs = [x] ∧ LenV g.K x H n ∧ Q (.int n) H) (tCons (tVar i) tNil)
  ev a := match gt a i with
    | some (.seq ns) => some (.int ns.length, a)
    | _ => none
  ok g a d a' h p0 e he := by
    split at h
    · rename_i ns hns
      cases h
      exact (ep_lenSeq (he.seq hns)).imp fun x e' ⟨h1, h2⟩ => by
        subst h1 h2
        exact ⟨rfl, he⟩
    · cases h
/-- script[x] -/
def Xe.ixSeq (i : Nat) (x : Xe) : Xe where
  t g := tOp (rIx g.K) (tVar i) (x.t g)
  ev a := match gt a i with
    | some (.seq ns) => (x.ev a).bind fun p => match p.1 with
      | .int j => (atI ns j).bind fun n => some (.int n, p.2)
      | _ => none
    | _ => none
  ok g a d a' h p0 e he F I0 I σ H E Q q := by
    split at h
    · rename_i ns hns
      obtain ⟨⟨d1, a1⟩, h1, h⟩ := Option.bind_eq_some_iff.mp h
      obtain ⟨v0, hs0, ⟨b, ev0, hsq⟩⟩ := E.at_ i _ (he.seq hns)
      subst ev0
      refine ⟨.ref b, hs0, x.ok g a _ _ h1 p0 e he F I0 I σ H E _ fun v I1 H1 ds e1 E1 x1 hd ⟨ed, ha⟩ => ?_⟩
      subst ed
      dsimp only at h
      split at h
      · rename_i j _
        obtain ⟨n, h2, h⟩ := Option.bind_eq_some_iff.mp h
        cases h
        cases dp_int hd
        have h3 : atI (ns.map V.int) j = some (.int n) := by
          unfold atI at h2 ⊢
          rw [List.length_map]
          cases hj : ixN ns.length j with
          | none => rw [hj] at h2; cases h2
          | some m =>
            rw [hj] at h2
            have h2 : ns[m]? = some n := h2
            show (ns.map V.int)[m]? = _
            rw [List.getElem?_map, h2]
            rfl
        exact .inl ⟨b, _, _, _, rfl, rfl, E1.ih.l (x1.l hsq), h3, q _ I1 H1 _ e1 E1 x1 (.int n) ⟨rfl, ha⟩⟩
      · cases h
    · cases h
/-- x, y = two new lists -/
def Xs.par2F (i j : Nat) (x y : Xf) : Xs where
  t g := tPar i j (tCons (x.t g) (tCons (y.t g) tNil))
  run a := (x.ev a).bind fun p => (y.ev p.2).bind fun q => some (.nx (st (st q.2 i (some (.lst false p.1))) j (some (.lst false q.1))))
  ok g a o h p0 e he F I0 I σ H D E A := by
    obtain ⟨⟨d1, a1⟩, h1, h⟩ := Option.bind_eq_some_iff.mp h
    obtain ⟨⟨d2, a2⟩, h2, h⟩ := Option.bind_eq_some_iff.mp h
    cases h
    refine x.ok g a _ _ h1 p0 e he F I0 I σ H E _ fun b I1 H1 xs ds e1 E1 x1 hF hI0 hI hH hd hc ⟨ed, ha⟩ => ?_
    subst ed
    -- the first list is kept while the second is made
    have E1g : EnvI g.K (upd F b (.lst xs)) I0 I1 σ H1 e1 := by
      refine ⟨fun c u hu => ?_, E1.oi, E1.ih, fun c hc1 hc2 => ?_, E1.len, fun k z hz => ?_, E1.ne⟩
      · by_cases z : c = b
        · subst z
          rw [upd_same] at hu
          exact hH.trans hu
        · rw [upd_ne z] at hu
          exact E1.fh c u hu
      · by_cases z : c = b
        · subst z
          exact hI
        · rw [upd_ne z] at hc1
          exact E1.fr c hc1 hc2
      · obtain ⟨v, hs, hv⟩ := E1.at_ k z hz
        refine ⟨v, hs, ?_⟩
        have off : ∀ c, v = .ref c → isCell z = true → F c = none → (upd F b (.lst xs)) c = none := fun c ec cz hf => by
          have : c ≠ b := fun w => hc k z hz cz (by rw [hs, ec, w])
          rw [upd_ne this]
          exact hf
        cases z with
        | dat d => exact hv
        | lst p ds => obtain ⟨ev, hf, hr⟩ := hv; exact ⟨ev, off _ ev rfl hf, hr⟩
        | dic p ds => obtain ⟨ev, hf, hr⟩ := hv; exact ⟨ev, off _ ev rfl hf, hr⟩
        | prs p n => obtain ⟨ev, hf, hr⟩ := hv; exact ⟨ev, off _ ev rfl hf, hr⟩
        | ins p C dx fs => obtain ⟨ev, hf, hr⟩ := hv; exact ⟨ev, off _ ev rfl hf, hr⟩
        | dct p ks => obtain ⟨ev, hf, hr⟩ := hv; exact ⟨ev, off _ ev rfl hf, hr⟩
        | seq ns => exact hv
        | exc C fs => exact hv
    refine y.ok g _ _ _ h2 p0 e1 ha _ I0 I1 σ H1 E1g _ fun c I2 H2 ys es e2 E2 x2 hF2 hI02 hI2 hH2 hd2 hc2 ⟨ed, ha2⟩ => ?_
    subst ed
    refine ⟨_, _, rfl, ?_⟩
    have hcb : c ≠ b := fun z => by rw [z, upd_same] at hF2; cases hF2
    obtain ⟨hbI, hbH, E3, hcb3⟩ := EnvI.unguardF E2 hF hI0
    have E4 := EnvI.setOwn E3 i hcb3 (x := .lst b _) ⟨rfl, hF, hbI, xs, hbH, dpA_mono x2 hd⟩
    have hFc : F c = none := by rw [upd_ne hcb] at hF2; exact hF2
    refine A.nx I2 _ H2 _ (EnvI.setOwn E4 j (fun k z hz cz => ?_) (x := .lst c _) ⟨rfl, hFc, hI2, ys, hH2, hd2⟩) ⟨_, rfl, (ha2.set i (.lst _ false _ (fun z => nomatch z))).set j (.lst _ false _ (fun z => nomatch z))⟩
    by_cases e : i = k
    · subst e
      intro q
      have hk : i < e2.length := by
        have := (List.getElem?_eq_some_iff.mp hz).1
        simpa using this
      rw [List.getElem?_set_self (by rw [← E3.len]; exact hk)] at q
      cases q
      exact hcb rfl
    · rw [List.getElem?_set_ne e] at hz ⊢
      exact hc2 k z hz cz
theorem pss_eq {X : Cx} {sts : List Stmt} {t t' : TS} (h : PSs X sts t) (e : t = t') : PSs X sts t' := e ▸ h
theorem pe_eq {X : Cx} {e : Expr} {t t' : TE} (h : PE X e t) (q : t = t') : PE X e t' := q ▸ h
theorem pg_eq {X : Cx} {e : Expr} {t t' : TG} (h : PG X e t) (q : t = t') : PG X e t' := q ▸ h
theorem pts_eq {X : Cx} {e : List Expr} {t t' : TT} (h : PTs X e t) (q : t = t') : PTs X e t' := q ▸ h
/-! a promise of Lw's logic, as a function -/
theorem Cal.toG {P : Program} {w : World} {K : PySem.W.Frag} {mg : Str → Option Value} {base : Heap} {k : Nat} {x : Str} {Pre : List PyData → Prop} {Ps : List PyData → PyData → Prop} {φ : Fn} (c : Cal P w K mg base k x (spD K Pre Ps))
    (h : ∀ A ds r bs, φ A ds = some (r, bs) → A = .no ∧ Pre ds ∧ ∀ d, Ps ds d → r = .dat d) : Cal P w K mg base k x (spG K φ) := by
  obtain ⟨f, fd, ps, F, hm, kp, b⟩ := c.ex
  refine ⟨f, fd, ps, F.imp fun vs H Q E hs => ?_, hm, kp, b⟩
  obtain ⟨A, pw, xs, I, ds, hin, hI, hvs, hφ, k⟩ := hs
  obtain ⟨⟨r, bs⟩, hφ⟩ := Option.isSome_iff_exists.mp hφ
  obtain ⟨rfl, hp, hr⟩ := h A ds r bs hφ
  obtain ⟨rfl, rfl⟩ := hin
  refine ⟨I, ds, hI, hvs, hp, fun v I' H' d a1 a2 a3 a4 hd hps => ?_⟩
  exact k v I' H' r bs hφ a1 a2 (fun a o _ => a3 a o) a4 (fun p z => nomatch z) (by rw [hr d hps]; exact hd)
end Px

set_option Elab.async false
set_option linter.all false
set_option autoImplicit false
set_option maxRecDepth 100000
set_option maxHeartbeats 4000000
/-! Nets, as data: what is one, and the first of what isn't so. -/
namespace Nt
open PySem PySem.Spec PyProof.Rows L2 Lw
/-! ### data of a bounded form -/
def okS (z : Str) : Bool := PyData.strOk z && decide (z.length ≤ 100)
def gd : Nat → PyData → Bool
  | _, .none | _, .bool _ | _, .int _ => true
  | _, .str z => okS z
  | 0, .list _ | 0, .tuple _ | 0, .dict _ => false
  | n + 1, .list ds | n + 1, .tuple ds => decide (ds.length ≤ 1000) && ds.all (gd n)
  | _ + 1, .dict _ => false
theorem gd_tup {n : Nat} {ds : List PyData} (h : gd n (.tuple ds) = true) : ∃ m, n = m + 1 ∧ ds.length ≤ 1000 ∧ ∀ d ∈ ds, gd m d = true := by
  cases n with
  | zero => exact absurd h (by simp [gd])
  | succ m =>
    simp only [gd, Bool.and_eq_true, decide_eq_true_eq, List.all_eq_true] at h
    exact ⟨m, rfl, h.1, h.2⟩
theorem gd_str {n : Nat} {z : Str} (h : gd n (.str z) = true) : okS z = true := by
  cases n <;> simpa [gd] using h
theorem okS_len {z : Str} (h : okS z = true) : z.length ≤ 100 := by
  unfold okS at h
  rw [Bool.and_eq_true] at h
  exact of_decide_eq_true h.2
mutual
theorem gd_lay : ∀ (n : Nat) (d : PyData), gd n d = true → d.canLay0 = true ∧ d.depth ≤ n
  | n, .none, _ => by simp [PyData.canLay0, PyData.depth]
  | n, .bool _, _ => by simp [PyData.canLay0, PyData.depth]
  | n, .int _, _ => by simp [PyData.canLay0, PyData.depth]
  | n, .str z, h => by
    have q := gd_str h
    unfold okS at q
    rw [Bool.and_eq_true] at q
    simp [PyData.canLay0, PyData.depth, q.1]
  | 0, .list _, h => by simp [gd] at h
  | 0, .tuple _, h => by simp [gd] at h
  | 0, .dict _, h => by simp [gd] at h
  | n + 1, .list ds, h => by
    simp only [gd, Bool.and_eq_true] at h
    have q := gd_layAll n ds h.2
    simp only [PyData.canLay0, PyData.depth]
    exact ⟨q.1, by omega⟩
  | n + 1, .tuple ds, h => by
    simp only [gd, Bool.and_eq_true] at h
    have q := gd_layAll n ds h.2
    simp only [PyData.canLay0, PyData.depth]
    exact ⟨q.1, by omega⟩
  | n + 1, .dict _, h => by simp [gd] at h
theorem gd_layAll : ∀ (n : Nat) (ds : List PyData), ds.all (gd n) = true → PyData.canLayAll0 ds = true ∧ PyData.depthAll ds ≤ n
  | _, [], _ => by simp [PyData.canLayAll0, PyData.depthAll]
  | n, d :: ds, h => by
    rw [List.all_cons, Bool.and_eq_true] at h
    have q1 := gd_lay n d h.1
    have q2 := gd_layAll n ds h.2
    simp only [PyData.canLayAll0, PyData.depthAll, q1.1, q2.1]
    exact ⟨rfl, by omega⟩
end
theorem gd_shaped {n : Nat} {d : PyData} (h : gd n d = true) (hn : n ≤ 64) : SeqAt.shaped d = true := by
  obtain ⟨h1, h2⟩ := gd_lay n d h
  unfold SeqAt.shaped
  rw [h1, decide_eq_true (by omega : d.depth ≤ 64)]
  rfl
mutual
theorem gd_up : ∀ (n : Nat) (d : PyData), gd n d = true → gd (n + 1) d = true
  | n, .none, _ => by simp [gd]
  | n, .bool _, _ => by simp [gd]
  | n, .int _, _ => by simp [gd]
  | n, .str z, h => by
    have q := gd_str h
    simp [gd, q]
  | 0, .list _, h => by simp [gd] at h
  | 0, .tuple _, h => by simp [gd] at h
  | 0, .dict _, h => by simp [gd] at h
  | n + 1, .list ds, h => by
    simp only [gd, Bool.and_eq_true] at h ⊢
    exact ⟨h.1, gd_upAll n ds h.2⟩
  | n + 1, .tuple ds, h => by
    simp only [gd, Bool.and_eq_true] at h ⊢
    exact ⟨h.1, gd_upAll n ds h.2⟩
  | n + 1, .dict _, h => by simp [gd] at h
theorem gd_upAll : ∀ (n : Nat) (ds : List PyData), ds.all (gd n) = true → ds.all (gd (n + 1)) = true
  | _, [], _ => rfl
  | n, d :: ds, h => by
    rw [List.all_cons, Bool.and_eq_true] at h ⊢
    exact ⟨gd_up n d h.1, gd_upAll n ds h.2⟩
end
theorem gd_mono {d : PyData} {n : Nat} (h : gd n d = true) : ∀ {m : Nat}, n ≤ m → gd m d = true := by
  intro m hm
  obtain ⟨k, rfl⟩ : ∃ k, m = n + k := ⟨m - n, by omega⟩
  clear hm
  induction k with
  | zero => exact h
  | succ k ih => exact gd_up _ _ ih
/-- what stands in good data is good -/
theorem gd_in {n : Nat} {ds : List PyData} (h : gd n (.tuple ds) = true) {d : PyData} (hd : d ∈ ds) : gd n d = true := by
  obtain ⟨m, rfl, _, q⟩ := gd_tup h
  exact gd_up _ _ (q d hd)
theorem gd_len {n : Nat} {ds : List PyData} (h : gd n (.tuple ds) = true) : ds.length ≤ 1000 := by
  obtain ⟨m, rfl, q, _⟩ := gd_tup h
  exact q
/-! ### what is what -/
def letters : Str := "abcdefghijklmnopqrstuvwxyz"
def wordSigns : Str := "abcdefghijklmnopqrstuvwxyz0123456789"
def kept : List Str := ["place", "fire", "as"]
def isWhole : PyData → Bool
  | .int _ => true
  | _ => false
def isIntB : PyData → Bool
  | .int _ | .bool _ => true
  | _ => false
def isBool : PyData → Bool
  | .bool _ => true
  | _ => false
def isStr : PyData → Bool
  | .str _ => true
  | _ => false
def isTup : PyData → Bool
  | .tuple _ => true
  | _ => false
def nameOk (z : Str) : Bool := match z.cps.toList with
  | [] => false
  | c :: cs => decide (z.length ≤ 8) && !(kept.contains z) && decide (c ∈ letters.cps.toList) && (c :: cs).all fun c => decide (c ∈ wordSigns.cps.toList)
def isName : PyData → Bool
  | .str z => nameOk z
  | _ => false
def isTupleOf (d : PyData) (n : Int) : Bool := match d with
  | .tuple ds => decide ((ds.length : Int) = n)
  | _ => false
def countOk (d : PyData) (least : Int) : Bool := match d with
  | .int i => decide (least ≤ i) && decide (i ≤ 999999999)
  | _ => false
def isCounted (d : PyData) (least : Int) : Bool := match d with
  | .tuple [a, b] => isName a && countOk b least
  | _ => false
def isParts : PyData → Bool
  | .tuple ds => ds.all fun d => isCounted d 1
  | _ => false
def isLabel (d : PyData) : Bool := PyData.eqv d (.str "") || isName d
def isFiring : PyData → Bool
  | .tuple [a, b, c, e] => isName a && isLabel b && isParts c && isParts e
  | _ => false
theorem kb_NoneType_str : kitB "NoneType" "str" = some false := by decide +kernel
theorem kb_bool_str : kitB "bool" "str" = some false := by decide +kernel
theorem kb_int_str : kitB "int" "str" = some false := by decide +kernel
theorem kb_str_str : kitB "str" "str" = some true := by decide +kernel
theorem kb_list_str : kitB "list" "str" = some false := by decide +kernel
theorem kb_tuple_str : kitB "tuple" "str" = some false := by decide +kernel
theorem kb_NoneType_int : kitB "NoneType" "int" = some false := by decide +kernel
theorem kb_bool_int : kitB "bool" "int" = some true := by decide +kernel
theorem kb_int_int : kitB "int" "int" = some true := by decide +kernel
theorem kb_str_int : kitB "str" "int" = some false := by decide +kernel
theorem kb_list_int : kitB "list" "int" = some false := by decide +kernel
theorem kb_tuple_int : kitB "tuple" "int" = some false := by decide +kernel
theorem kb_NoneType_bool : kitB "NoneType" "bool" = some false := by decide +kernel
theorem kb_bool_bool : kitB "bool" "bool" = some true := by decide +kernel
theorem kb_int_bool : kitB "int" "bool" = some false := by decide +kernel
theorem kb_str_bool : kitB "str" "bool" = some false := by decide +kernel
theorem kb_list_bool : kitB "list" "bool" = some false := by decide +kernel
theorem kb_tuple_bool : kitB "tuple" "bool" = some false := by decide +kernel
theorem kb_NoneType_tuple : kitB "NoneType" "tuple" = some false := by decide +kernel
theorem kb_bool_tuple : kitB "bool" "tuple" = some false := by decide +kernel
theorem kb_int_tuple : kitB "int" "tuple" = some false := by decide +kernel
theorem kb_str_tuple : kitB "str" "tuple" = some false := by decide +kernel
theorem kb_list_tuple : kitB "list" "tuple" = some false := by decide +kernel
theorem kb_tuple_tuple : kitB "tuple" "tuple" = some true := by decide +kernel
theorem kb_NoneType_list : kitB "NoneType" "list" = some false := by decide +kernel
theorem kb_bool_list : kitB "bool" "list" = some false := by decide +kernel
theorem kb_int_list : kitB "int" "list" = some false := by decide +kernel
theorem kb_str_list : kitB "str" "list" = some false := by decide +kernel
theorem kb_list_list : kitB "list" "list" = some true := by decide +kernel
theorem kb_tuple_list : kitB "tuple" "list" = some false := by decide +kernel
/-! ### the first of what isn't so -/
def nameD : PyData → Str
  | .tuple (.str z :: _) => z
  | _ => ""
def seqD : PyData → List PyData
  | .tuple ds => ds
  | _ => []
def itemD (d : PyData) (j : Nat) : PyData := (seqD d).getD j .none
def placesWrong : Nat → List Str → List PyData → PyData
  | _, _, [] => .none
  | k, ah, p :: ps => if (!isCounted p 0 || ah.contains (nameD p)) = true then .tuple [.str "place", .int k] else placesWrong (k + 1) (nameD p :: ah) ps
def badIn (num : Str → Option Int) : Int → Int → List PyData → Int ⊕ Int
  | j, _, [] => .inr j
  | j, last, p :: ps => match num (nameD p) with
    | none => .inl j
    | some n => if n ≤ last then .inl j else badIn num (j + 1) n ps
def badAll (num : Str → Option Int) : Int → List (List PyData) → PyData
  | _, [] => .none
  | j, ps :: r => match badIn num j (-1) ps with
    | .inl j => .int j
    | .inr j => badAll num j r
def badPart (num : Str → Option Int) (f : PyData) : PyData := badAll num 0 [seqD (itemD f 2), seqD (itemD f 3)]
def firingsWrong (num : Str → Option Int) : Nat → List Str → List PyData → PyData
  | _, _, [] => .none
  | k, ah, f :: fs => if (!isFiring f || ah.contains (nameD f)) = true then .tuple [.str "firing", .int k]
    else if isNoneD (badPart num f) = true then firingsWrong num (k + 1) (nameD f :: ah) fs else .tuple [.str "part", .int k, badPart num f]
def keyD (d : PyData) : Key := .inr (nameD (itemD d 1))
def numKv (ps : List PyData) : List (Key × V) := dictOfD keyD (fun d => toV (itemD d 0)) (pairsD 0 ps)
def numOf (kvs : List (Key × V)) (z : Str) : Option Int := match valV kvs (.inr z : Key) with
  | some (.int i) => some i
  | _ => none
def oneD (z : Str) : PyData := .tuple [.str z]
def netWrong2 (ps fs : List PyData) : PyData :=
  let w := placesWrong 0 [] ps
  let w := if isNoneD w = true then firingsWrong (numOf (numKv ps)) 0 [] fs else w
  if (isNoneD w && (decide (40 < (ps.length : Int)) || decide (60 < (fs.length : Int)))) = true then oneD "great" else w
def netWrong : PyData → PyData
  | .tuple [.tuple ps, .tuple fs] => if ps.isEmpty then oneD "net" else netWrong2 ps fs
  | _ => oneD "net"
theorem counted_form {p : PyData} {l : Int} (h : isCounted p l = true) : ∃ z i, p = .tuple [.str z, .int i] ∧ nameOk z = true ∧ l ≤ i ∧ i ≤ 999999999 := by
  unfold isCounted at h
  split at h
  · rename_i a b
    rw [Bool.and_eq_true] at h
    obtain ⟨h1, h2⟩ := h
    cases a with
    | str z =>
      cases b with
      | int i =>
        unfold countOk at h2
        simp only [Bool.and_eq_true, decide_eq_true_eq] at h2
        exact ⟨z, i, rfl, h1, h2.1, h2.2⟩
      | _ => cases h2
    | _ => cases h1
  · cases h
theorem parts_form {d : PyData} (h : isParts d = true) : ∃ ds, d = .tuple ds ∧ ∀ x ∈ ds, isCounted x 1 = true := by
  cases d with
  | tuple ds => exact ⟨ds, rfl, List.all_eq_true.mp h⟩
  | _ => cases h
theorem firing_form {f : PyData} (h : isFiring f = true) : ∃ z l t g, f = .tuple [.str z, l, t, g] ∧ nameOk z = true ∧ isLabel l = true ∧ isParts t = true ∧ isParts g = true := by
  unfold isFiring at h
  split at h
  · rename_i a b c e
    simp only [Bool.and_eq_true] at h
    obtain ⟨⟨⟨h1, h2⟩, h3⟩, h4⟩ := h
    cases a with
    | str z => exact ⟨z, b, c, e, rfl, h1, h2, h3, h4⟩
    | _ => cases h1
  · cases h
theorem placesWrong_none : ∀ (ps : List PyData) (k : Nat) (ah : List Str), isNoneD (placesWrong k ah ps) = true → ∀ p ∈ ps, isCounted p 0 = true
  | [], _, _, _, p, hp => by cases hp
  | q :: ps, k, ah, h, p, hp => by
    unfold placesWrong at h
    split at h
    · cases h
    · rename_i hc
      rcases List.mem_cons.mp hp with rfl | hp
      · simp only [Bool.or_eq_true, Bool.not_eq_true', not_or] at hc
        simpa using hc.1
      · exact placesWrong_none ps _ _ h p hp
theorem dictOfD_val {key : PyData → Key} {val : PyData → V} {k : Key} {v : V} : ∀ {ds : List PyData}, valV (dictOfD key val ds) k = some v → ∃ d ∈ ds, v = val d := by
  intro ds
  have h : ∀ (ds : List PyData) (acc : List (Key × V)), valV (ds.foldl (fun acc d => putK acc (key d) (val d)) acc) k = some v → (∃ d ∈ ds, v = val d) ∨ valV acc k = some v := by
    intro ds
    induction ds with
    | nil => intro acc h; exact .inr h
    | cons d ds ih =>
      intro acc h
      rw [List.foldl_cons] at h
      rcases ih _ h with ⟨x, hx, e⟩ | h
      · exact .inl ⟨x, List.mem_cons_of_mem _ hx, e⟩
      · rw [valV_put] at h
        split at h
        · exact .inl ⟨d, List.mem_cons_self, (Option.some.inj h).symm⟩
        · exact .inr h
  intro e
  rcases h ds [] e with h | h
  · exact h
  · cases h
theorem numKv_ok (ps : List PyData) : ∀ z v, valV (numKv ps) (.inr z : Key) = some v → ∃ i, v = .int i := fun z v h => by
  obtain ⟨d, hd, rfl⟩ := dictOfD_val h
  obtain ⟨j, hj⟩ := List.getElem?_of_mem hd
  obtain ⟨p, hp, rfl⟩ := pairsD_get hj
  exact ⟨_, rfl⟩
end Nt

set_option Elab.async false
set_option linter.all false
set_option autoImplicit false
set_option maxRecDepth 100000
set_option maxHeartbeats 4000000
namespace Nt
open PySem PySem.Spec PyProof.Rows L2 Lw
/-! ### the text -/
def topS (i : Nat) : Stmt := PySem.Challenge.pw_tokenfold_k88_what_cant_be_led.main.body.getD i (.Pass ⟨0, 0, 0, 0⟩)
abbrev sWhole : Stmt := topS 13
abbrev sName : Stmt := topS 14
abbrev sTupOf : Stmt := topS 15
abbrev sCounted : Stmt := topS 16
abbrev sParts : Stmt := topS 17
abbrev sFiring : Stmt := topS 18
abbrev sNumbers : Stmt := topS 19
abbrev sNet : Stmt := topS 20
abbrev sPlaces : Stmt := topS 21
abbrev sFirings : Stmt := topS 22
abbrev sBad : Stmt := topS 23
structure Bi (mg : Str → Option Value) : Prop where
  len : mg "len" = none
  isi : mg "isinstance" = none
  str : mg "str" = none
  int : mg "int" = none
  bool : mg "bool" = none
  tup : mg "tuple" = none
  list : mg "list" = none
  all : mg "all" = none
  enum : mg "enumerate" = none
  range : mg "range" = none
  max : mg "max" = none
  min : mg "min" = none
  zip : mg "zip" = none
  sum : mg "sum" = none
  set : mg "set" = none
  sorted : mg "sorted" = none
  dict : mg "dict" = none
  any : mg "any" = none
  repr : mg "repr" = none
structure Nc (K : PySem.W.Frag) (mg : Str → Option Value) : Prop where
  let_ : ∃ u, mg "LETTERS" = some u ∧ RelV (.str letters) u
  ws : ∃ u, mg "WORD_SIGNS" = some u ∧ RelV (.str wordSigns) u
  kw : ∃ a : Addr, (∃ u, mg "KEPT_WORDS" = some u ∧ RelV (.ref a) u) ∧ ∀ H, SqT K H a (kept.map V.str)
  ln : ∃ u, mg "LONGEST_NAME" = some u ∧ RelV (.int 8) u
  gr : ∃ u, mg "GREATEST" = some u ∧ RelV (.int 999999999) u
  mp : ∃ u, mg "MOST_PLACES" = some u ∧ RelV (.int 40) u
  mf : ∃ u, mg "MOST_FIRINGS" = some u ∧ RelV (.int 60) u
theorem bt {X : Cx} {x : Str} {n : String} {pos : Pos} (hm : X.mg x = none) (hv : bootBuiltins x = some (.type n)) (hg : Gl X x := by rfl) (hn : x ≠ "__name__" := by decide) (hd : (x == ("__debug__" : Str)) = false := by decide) : PE X (.Name x pos) (tC (.ty n)) := pe_bltn hg hm hv rfl hn hd
section
variable {P : Program} {w : World} {K : PySem.W.Frag} {mg : Str → Option Value} {base : Heap} {env : Lw.Env} {te : TE} {d : PyData}
/-! isinstance, by kinds -/
theorem isi_str (h : EvP K te env d) (hd : ∀ kvs, d ≠ .dict kvs) : EvP K (tCB (rIsi K) (tCons te (tCons (tC (.ty "str")) tNil))) env (.bool (isStr d)) := ep_isi h (by
  cases d <;> first | exact kb_NoneType_str | exact kb_bool_str | exact kb_int_str | exact kb_str_str | exact kb_list_str | exact kb_tuple_str | exact absurd rfl (hd _))
theorem isi_int (h : EvP K te env d) (hd : ∀ kvs, d ≠ .dict kvs) : EvP K (tCB (rIsi K) (tCons te (tCons (tC (.ty "int")) tNil))) env (.bool (isIntB d)) := ep_isi h (by
  cases d <;> first | exact kb_NoneType_int | exact kb_bool_int | exact kb_int_int | exact kb_str_int | exact kb_list_int | exact kb_tuple_int | exact absurd rfl (hd _))
theorem isi_bool (h : EvP K te env d) (hd : ∀ kvs, d ≠ .dict kvs) : EvP K (tCB (rIsi K) (tCons te (tCons (tC (.ty "bool")) tNil))) env (.bool (isBool d)) := ep_isi h (by
  cases d <;> first | exact kb_NoneType_bool | exact kb_bool_bool | exact kb_int_bool | exact kb_str_bool | exact kb_list_bool | exact kb_tuple_bool | exact absurd rfl (hd _))
theorem isi_tup (h : EvP K te env d) (hd : ∀ kvs, d ≠ .dict kvs) : EvP K (tCB (rIsi K) (tCons te (tCons (tC (.ty "tuple")) tNil))) env (.bool (isTup d)) := ep_isi h (by
  cases d <;> first | exact kb_NoneType_tuple | exact kb_bool_tuple | exact kb_int_tuple | exact kb_str_tuple | exact kb_list_tuple | exact kb_tuple_tuple | exact absurd rfl (hd _))
theorem gd_nd {n : Nat} (h : gd n d = true) : ∀ kvs, d ≠ .dict kvs := fun kvs e => by
  subst e
  cases n <;> simp [gd] at h
abbrev P1 (n : Nat) : List PyData → Prop := fun ds => ∃ a, ds = [a] ∧ gd n a = true
/-! ### is_whole -/
theorem scWhole : FnScope ["thing"] ["thing"] (defScope sWhole) := ⟨rfl, rfl, rfl, by decide +kernel, rfl, by decide +kernel, by decide +kernel⟩
theorem ok_whole (D : DefAt K mg "is_whole" sWhole ["thing"]) (B : Bi mg) : Cal P w K mg base 1 "is_whole" (spD K (P1 20) fun ds r => ∃ a, ds = [a] ∧ r = .bool (isWhole a)) := by
  refine D.calD scWhole (fun ds ⟨a, e, _⟩ => by rw [e]; rfl) fun f cdv A outer s H E hr => ⟨_, pss_one (ps_ret (pe_and (pe_callB call_isi (by rfl) B.isi PyProof.Rows.boot_isinstance (pa_cons (pv 0) (pa_cons (bt B.int PyProof.Rows.boot_int) pa_nil)))
    (pe_one (pe_not (pe_callB call_isi (by rfl) B.isi PyProof.Rows.boot_isinstance (pa_cons (pv 0) (pa_cons (bt B.bool PyProof.Rows.boot_bool) pa_nil))))))), ?_⟩
  rintro ds ⟨a, rfl, ha⟩
  refine run_retP (ep_andV (isi_int (ep_var rfl) (gd_nd ha)) fun _ => ep_notV (isi_bool (ep_var rfl) (gd_nd ha))) ⟨a, rfl, ?_⟩
  cases a <;> rfl
/-! ### is_name -/
theorem scName : FnScope ["thing", "sign"] ["thing"] (defScope sName) := ⟨rfl, rfl, rfl, by decide +kernel, rfl, by decide +kernel, by decide +kernel⟩
theorem inV_str (z : Str) : ∀ ks : List Str, inV (.str z) (ks.map V.str) = ks.contains z
  | [] => rfl
  | k :: ks => by
    show ((k == z) || inV (.str z) (ks.map V.str)) = _
    rw [inV_str z ks, List.contains_cons, Bool.beq_comm]
theorem ok_name (D : DefAt K mg "is_name" sName ["thing"]) (B : Bi mg) (C : Nc K mg) : Cal P w K mg base 1 "is_name" (spD K (P1 20) fun ds r => ∃ a, ds = [a] ∧ r = .bool (isName a)) := by
  obtain ⟨ka, hka, hks⟩ := C.kw
  refine D.calD scName (fun ds ⟨a, e, _⟩ => by rw [e]; rfl) fun f cdv A outer s H E hr => ⟨_, pss_cons (ps_if (pw_or (pt_not (pt_val (pe_callB call_isi (by rfl) B.isi PyProof.Rows.boot_isinstance (pa_cons (pv 0) (pa_cons (bt B.str PyProof.Rows.boot_str) pa_nil)))))
      (pw_or (pt_cmpR op_lt (pe_callB call_len (by rfl) B.len PySem.boot_len (pa_cons (pv 0) pa_nil)) pe_int (nomark _))
      (pw_or (pt_cmpR op_gt (pe_callB call_len (by rfl) B.len PySem.boot_len (pa_cons (pv 0) pa_nil)) (gk C.ln) (nomark _))
      (pw_or1 (pt_cmpR op_in_seq (pv 0) (gk hka) (by with_unfolding_all rfl)))))).pt (pss_one (ps_ret pe_bl)) pss_nil)
    (pss_one (ps_ret (pe_and (pe_cmpR op_inS (pe_ix ix_str (pv 0) pe_int (fun _ _ => rfl)) (gk C.let_) (by with_unfolding_all rfl))
      (pe_one (pe_callB (cr_all rfl) (by rfl) B.all (by decide +kernel) (pa_cons (pe_lc (own := [("sign", 1)]) (g := gName 1) (tt := tYes) rfl scName.nd (pi_str (pv 0)) (blkOk_by (own := [("sign", 1)]) (N := ["thing", "sign"]) (sc := defScope sName) (by decide +kernel)) (fun _ _ _ _ _ => pg_name (i := 1) scName.nd rfl (Or.inl rfl)) (fun _ _ _ _ _ => pts_nil)
        (fun _ _ _ _ _ => pe_cmpR op_inS (pv 1) (gk C.ws) (by with_unfolding_all rfl))) pa_nil)))))), ?_⟩
  rintro ds ⟨a, rfl, ha⟩
  by_cases hs : isStr a = true
  · obtain ⟨z, rfl⟩ : ∃ z, a = .str z := by cases a <;> first | exact ⟨_, rfl⟩ | cases hs
    have hl := okS_len (gd_str ha)
    have hlen : lenD (.str z) = some z.length := if_pos (Nat.le_trans hl (by decide))
    have kd : ∀ I, Dq K I (.ref ka) (.tuple (kept.map PyData.str)) := fun I => .tup (hks I) (dq_strs kept)
    refine run_seq (run_ifP (ept_or (et_is (ept_not (ept_b (isi_str (ep_var rfl) (gd_nd ha)))) (show (!isStr (.str z)) = false from rfl)) fun _ =>
      ept_or (ept_test (ep_op (ep_cb (ea_cons (ep_var rfl) ea_nil) (rc_len hlen)) ep_int rd_IB)) fun _ =>
      ept_or (ept_test (ep_op (ep_cb (ea_cons (ep_var rfl) ea_nil) (rc_len hlen)) (ep_c fun _ => .int 8) rd_IB)) fun _ =>
      ept_test (ep_op (ep_var rfl) (ep_c kd) (rd_in (neg := false) (ds := kept.map PyData.str) rfl rfl (by decide +kernel)))) (fun h => ?_) fun h => run_next ?_)
    · refine run_retP ep_bl ⟨_, rfl, ?_⟩
      have hm : ((kept.map PyData.str).map toV) = kept.map V.str := rfl
      rw [hm, show toV (.str z) = V.str z from rfl, inV_str] at h
      show PyData.bool false = .bool (nameOk z)
      unfold nameOk
      split
      · rfl
      · rename_i c cs hc
        have hz : z.length = (c :: cs).length := by rw [← hc]; exact (Array.length_toList (xs := z.cps)).symm
        have h1 : ((z.length : Int) < 1) = False := eq_false (by rw [hz, List.length_cons]; omega)
        rw [decide_eq_false (by rw [hz, List.length_cons]; omega)] at h
        simp only [Bool.false_or, Bool.or_eq_true, decide_eq_true_eq] at h
        rcases h with h | h
        · rw [decide_eq_false (by omega : ¬ z.length ≤ 8)]
          rfl
        · have h' : kept.contains z = true := by simpa using h
          rw [h']
          simp
    · have hm : ((kept.map PyData.str).map toV) = kept.map V.str := rfl
      rw [hm, show toV (.str z) = V.str z from rfl, inV_str] at h
      simp only [Bool.false_or, Bool.or_eq_false_iff, decide_eq_false_iff_not] at h
      obtain ⟨h1, h2, h3⟩ := h
      have h3' : kept.contains z = false := by simpa using h3
      obtain ⟨c, cs, hc⟩ : ∃ c cs, z.cps.toList = c :: cs := by
        cases e : z.cps.toList with
        | nil =>
          have : z.length = 0 := by
            show z.cps.size = 0
            rw [← Array.length_toList, e]
            rfl
          omega
        | cons c cs => exact ⟨c, cs, rfl⟩
      have hsg : Lw.signs z = (c :: cs).map fun c => PyData.str ⟨#[c]⟩ := by unfold Lw.signs; rw [hc]
      refine run_retP (ep_andV (ep_op (ep_op (ep_var rfl) ep_int (rd_ixS (by omega) (show atI z.cps.toList 0 = some c by rw [hc]; exact atI_nat (j := 0) rfl))) (ep_c fun _ => .str letters) rd_inS) fun _ => ep_cb (ea_cons (ep_is (ep_lcA (vs := [1]) (ew_str (ep_var rfl)) rfl (by unfold Lw.signs; rw [List.length_map, Array.length_toList]; exact Nat.le_trans hl (by decide)) (own_name (by simp))
          (fun d => .bool (match d with | .str x => decide (x.cps.getD 0 0 ∈ wordSigns.cps.toList) | _ => false)) fun d hd => tgt_name ⟨rfl, by
            obtain ⟨c, _, rfl⟩ := List.mem_map.mp hd
            exact ep_op (ep_var (d := .str ⟨#[c]⟩) rfl) (ep_c fun _ => .str wordSigns) rd_inS⟩) (show _ = PyData.list (((c :: cs).map fun c => decide (c ∈ wordSigns.cps.toList)).map PyData.bool) by rw [hsg, List.map_map, List.map_map]; rfl)) ea_nil) rc_all) ⟨_, rfl, ?_⟩
      show _ = PyData.bool (nameOk z)
      unfold nameOk
      rw [hc]
      show PyData.bool (decide (c ∈ letters.cps.toList) && ((c :: cs).map fun c => decide (c ∈ wordSigns.cps.toList)).all id) = PyData.bool (decide (z.length ≤ 8) && !(kept.contains z) && decide (c ∈ letters.cps.toList) && (c :: cs).all fun c => decide (c ∈ wordSigns.cps.toList))
      rw [decide_eq_true (by omega : z.length ≤ 8), h3', List.all_map]
      rfl
  · have hs' : isStr a = false := by simpa using hs
    refine run_seq (run_ifP (ept_or1 (et_is (ept_not (ept_b (isi_str (ep_var rfl) (gd_nd ha)))) (show (!isStr a) = true by rw [hs']; rfl))) (fun h => run_retP ep_bl ⟨_, rfl, ?_⟩) fun h => by cases h)
    cases a <;> first | rfl | cases hs'
abbrev P1I (n : Nat) : List PyData → Prop := fun ds => ∃ a i, ds = [a, .int i] ∧ gd n a = true
/-! ### is_tuple_of -/
theorem scTupOf : FnScope ["thing", "many"] ["thing", "many"] (defScope sTupOf) := ⟨rfl, rfl, rfl, by decide +kernel, rfl, by decide +kernel, by decide +kernel⟩
theorem ok_tupOf (D : DefAt K mg "is_tuple_of" sTupOf ["thing", "many"]) (B : Bi mg) : Cal P w K mg base 1 "is_tuple_of" (spD K (P1I 20) fun ds r => ∃ a i, ds = [a, .int i] ∧ r = .bool (isTupleOf a i)) := by
  refine D.calD scTupOf (fun ds ⟨a, i, e, _⟩ => by rw [e]; rfl) fun f cdv A outer s H E hr => ⟨_, pss_one (ps_ret (pe_and (pe_callB call_isi (by rfl) B.isi PyProof.Rows.boot_isinstance (pa_cons (pv 0) (pa_cons (bt B.tup PyProof.Rows.boot_tuple) pa_nil)))
    (pe_one (pe_cmpR op_eq (pe_callB call_len (by rfl) B.len PySem.boot_len (pa_cons (pv 0) pa_nil)) (pv 1) (nomark _))))), ?_⟩
  rintro ds ⟨a, i, rfl, ha⟩
  cases ht : isTup a with
  | true =>
    obtain ⟨ds, rfl⟩ : ∃ ds, a = .tuple ds := by cases a <;> first | exact ⟨_, rfl⟩ | cases ht
    exact run_retP (ep_andV (isi_tup (ep_var rfl) (gd_nd ha)) fun _ => ep_op (ep_cb (ea_cons (ep_var rfl) ea_nil) (rc_len rfl)) (ep_var rfl) rd_eqI) ⟨_, _, rfl, by rw [show isTup (.tuple ds) = true from rfl]; rfl⟩
  | false =>
    refine run_retP (ep_and0 (ep_is (isi_tup (ep_var rfl) (gd_nd ha)) (by rw [ht]))) ⟨_, _, rfl, ?_⟩
    cases a <;> first | rfl | cases ht
abbrev spWhole (K : PySem.W.Frag) : Sp := spD K (P1 20) fun ds r => ∃ a, ds = [a] ∧ r = .bool (isWhole a)
abbrev spName (K : PySem.W.Frag) : Sp := spD K (P1 20) fun ds r => ∃ a, ds = [a] ∧ r = .bool (isName a)
abbrev spTupOf (K : PySem.W.Frag) : Sp := spD K (P1I 20) fun ds r => ∃ a i, ds = [a, .int i] ∧ r = .bool (isTupleOf a i)
abbrev spCounted (K : PySem.W.Frag) : Sp := spD K (P1I 20) fun ds r => ∃ a i, ds = [a, .int i] ∧ r = .bool (isCounted a i)
abbrev spParts (K : PySem.W.Frag) : Sp := spD K (P1 20) fun ds r => ∃ a, ds = [a] ∧ r = .bool (isParts a)
abbrev spFiring (K : PySem.W.Frag) : Sp := spD K (P1 20) fun ds r => ∃ a, ds = [a] ∧ r = .bool (isFiring a)
theorem call1 {tr : TA} {a c : PyData} {Ps : List PyData → PyData → Prop} {E0 : XK} (h : EvPA K tr env [a]) (hp : gd 20 a = true) (hk : ∀ d, Ps [a] d → d = c) : EvP K (tCall (spD K (P1 20) Ps) [] E0 tr) env c := ep_callD h ⟨a, rfl, hp⟩ hk
theorem call1I {tr : TA} {a c : PyData} {i : Int} {Ps : List PyData → PyData → Prop} {E0 : XK} (h : EvPA K tr env [a, .int i]) (hp : gd 20 a = true) (hk : ∀ d, Ps [a, .int i] d → d = c) : EvP K (tCall (spD K (P1I 20) Ps) [] E0 tr) env c := ep_callD h ⟨a, i, rfl, hp⟩ hk
theorem k1 {a : PyData} {f : PyData → PyData} : ∀ d, (∃ a', [a] = [a'] ∧ d = f a') → d = f a := fun d ⟨a', e, h⟩ => by
  cases e
  exact h
theorem k1I {a : PyData} {i : Int} {f : PyData → Int → PyData} : ∀ d, (∃ a' i', [a, PyData.int i] = [a', .int i'] ∧ d = f a' i') → d = f a i := fun d ⟨a', i', e, h⟩ => by
  cases e
  exact h
theorem two_of {ds : List PyData} (h : ((ds.length : Int) = 2)) : ∃ a b, ds = [a, b] := by
  match ds, h with
  | [a, b], _ => exact ⟨a, b, rfl⟩
  | [], h => simp at h
  | [_], h => simp at h
  | _ :: _ :: _ :: _, h => simp at h; omega
theorem four_of {ds : List PyData} (h : ((ds.length : Int) = 4)) : ∃ a b c e, ds = [a, b, c, e] := by
  match ds, h with
  | [a, b, c, e], _ => exact ⟨a, b, c, e, rfl⟩
  | [], h => simp at h
  | [_], h => simp at h
  | [_, _], h => simp at h
  | [_, _, _], h => simp at h
  | _ :: _ :: _ :: _ :: _ :: _, h => simp at h; omega
theorem isTupleOf_tup {a : PyData} {n : Int} (h : isTupleOf a n = true) : ∃ ds, a = .tuple ds ∧ (ds.length : Int) = n := by
  cases a with
  | tuple ds => exact ⟨ds, rfl, of_decide_eq_true h⟩
  | _ => cases h
/-! ### is_counted -/
theorem scCounted : FnScope ["thing", "least"] ["thing", "least"] (defScope sCounted) := ⟨rfl, rfl, rfl, by decide +kernel, rfl, by decide +kernel, by decide +kernel⟩
theorem ok_counted (D : DefAt K mg "is_counted" sCounted ["thing", "least"]) (C : Nc K mg) (cT : Cal P w K mg base 1 "is_tuple_of" (spTupOf K)) (cN : Cal P w K mg base 1 "is_name" (spName K)) (cW : Cal P w K mg base 1 "is_whole" (spWhole K)) : Cal P w K mg base 2 "is_counted" (spCounted K) := by
  refine D.calD scCounted (fun ds ⟨a, i, e, _⟩ => by rw [e]; rfl) fun f cdv A outer s H E hr => ⟨_, pss_one (ps_ret (pe_and (pe_d cT hr (by decide) (by rfl) (pa_cons (pv 0) (pa_cons pe_int pa_nil)))
    (pe_and (pe_d cN hr (by decide) (by rfl) (pa_cons (pe_ix ix_tup (pv 0) pe_int (fun _ _ => rfl)) pa_nil))
    (pe_and (pe_d cW hr (by decide) (by rfl) (pa_cons (pe_ix ix_tup (pv 0) pe_int (fun _ _ => rfl)) pa_nil))
    (pe_one (pe_chain op_le op_le (pv 1) (pe_ix ix_tup (pv 0) pe_int (fun _ _ => rfl)) (gk C.gr))))))), ?_⟩
  rintro ds ⟨a, i, rfl, ha⟩
  cases ht : isTupleOf a 2 with
  | true =>
    obtain ⟨ds, rfl, hl⟩ := isTupleOf_tup ht
    obtain ⟨x, y, rfl⟩ := two_of hl
    have gx : gd 20 x = true := gd_in ha (by simp)
    have gy : gd 20 y = true := gd_in ha (by simp)
    have x0 : atI [x, y] 0 = some x := atI_nat (j := 0) rfl
    have x1 : atI [x, y] 1 = some y := atI_nat (j := 1) rfl
    cases hy : isWhole y with
    | true =>
      obtain ⟨n, rfl⟩ : ∃ n, y = .int n := by cases y <;> first | exact ⟨_, rfl⟩ | cases hy
      refine run_retP (ep_andV (call1I (ea_cons (ep_var rfl) (ea_cons ep_int ea_nil)) ha k1I) fun _ => ep_andV (call1 (ea_cons (ep_op (ep_var rfl) ep_int (rd_ixT x0)) ea_nil) gx k1) fun _ => ep_andV (call1 (ea_cons (ep_op (ep_var rfl) ep_int (rd_ixT x1)) ea_nil) gy k1) fun _ =>
        ep_chain (ep_var rfl) (ep_op (ep_var rfl) ep_int (rd_ixT x1)) rd_IB fun _ => ⟨ep_c fun _ => .int 999999999, rd_IB⟩) ⟨_, _, rfl, ?_⟩
      rw [ht, hy]
      rfl
    | false =>
      refine run_retP (ep_andV (call1I (ea_cons (ep_var rfl) (ea_cons ep_int ea_nil)) ha k1I) fun _ => ep_andV (call1 (ea_cons (ep_op (ep_var rfl) ep_int (rd_ixT x0)) ea_nil) gx k1) fun _ => ep_and0 (ep_is (call1 (ea_cons (ep_op (ep_var rfl) ep_int (rd_ixT x1)) ea_nil) gy k1) (by rw [hy]))) ⟨_, _, rfl, ?_⟩
      have hc : countOk y i = false := by cases y <;> first | rfl | cases hy
      show PyData.bool (isTupleOf (.tuple [x, y]) 2 && (isName x && false)) = .bool (isName x && countOk y i)
      rw [hc, Bool.and_false, Bool.and_false]
  | false =>
    refine run_retP (ep_and0 (ep_is (call1I (ea_cons (ep_var rfl) (ea_cons ep_int ea_nil)) ha k1I) (by rw [ht]))) ⟨_, _, rfl, ?_⟩
    have hc : isCounted a i = false := by
      unfold isCounted
      split
      · cases ht
      · rfl
    rw [hc]
/-! ### is_parts -/
theorem scParts : FnScope ["thing", "part"] ["thing"] (defScope sParts) := ⟨rfl, rfl, rfl, by decide +kernel, rfl, by decide +kernel, by decide +kernel⟩
theorem ok_parts (D : DefAt K mg "is_parts" sParts ["thing"]) (B : Bi mg) (cC : Cal P w K mg base 2 "is_counted" (spCounted K)) : Cal P w K mg base 3 "is_parts" (spParts K) := by
  refine D.calD scParts (fun ds ⟨a, e, _⟩ => by rw [e]; rfl) fun f cdv A outer s H E hr => ⟨_, pss_one (ps_ret (pe_and (pe_callB call_isi (by rfl) B.isi PyProof.Rows.boot_isinstance (pa_cons (pv 0) (pa_cons (bt B.tup PyProof.Rows.boot_tuple) pa_nil)))
    (pe_one (pe_callB (cr_all rfl) (by rfl) B.all (by decide +kernel) (pa_cons (pe_lc (own := [("part", 1)]) (g := gName 1) (tt := tYes) rfl scParts.nd (pi_tup (pv 0)) (blkOk_by (own := [("part", 1)]) (N := ["thing", "part"]) (sc := defScope sParts) (by decide +kernel)) (fun _ _ _ _ _ => pg_name (i := 1) scParts.nd rfl (Or.inl rfl)) (fun _ _ _ _ _ => pts_nil)
        (fun _ _ _ _ _ => pe_d cC hr (by decide) (by rfl) (pa_cons (pv 1) (pa_cons pe_int pa_nil)))) pa_nil))))), ?_⟩
  rintro ds ⟨a, rfl, ha⟩
  cases ht : isTup a with
  | true =>
    obtain ⟨ds, rfl⟩ : ∃ ds, a = .tuple ds := by cases a <;> first | exact ⟨_, rfl⟩ | cases ht
    refine run_retP (ep_andV (isi_tup (ep_var rfl) (gd_nd ha)) fun _ => ep_cb (ea_cons (ep_is (ep_lcA (vs := [1]) (ew_tup (ep_var rfl)) rfl (Nat.le_trans (gd_len ha) (by decide)) (own_name (by simp)) (fun d => .bool (isCounted d 1)) fun d hd => tgt_name ⟨rfl, call1I (ea_cons (ep_var rfl) (ea_cons ep_int ea_nil)) (gd_in ha hd) k1I⟩)
      (show _ = PyData.list ((ds.map fun d => isCounted d 1).map PyData.bool) by rw [List.map_map]; rfl)) ea_nil) rc_all) ⟨_, rfl, ?_⟩
    rw [List.all_map]
    rfl
  | false =>
    refine run_retP (ep_and0 (ep_is (isi_tup (ep_var rfl) (gd_nd ha)) (by rw [ht]))) ⟨_, rfl, ?_⟩
    cases a <;> first | rfl | cases ht
/-! ### is_firing -/
abbrev nFiring : List Str := ["thing", "name", "label", "takes", "gives"]
theorem scFiring : FnScope nFiring ["thing"] (defScope sFiring) := ⟨rfl, rfl, rfl, by decide +kernel, rfl, by decide +kernel, by decide +kernel⟩
theorem ok_firing (D : DefAt K mg "is_firing" sFiring ["thing"]) (cT : Cal P w K mg base 1 "is_tuple_of" (spTupOf K)) (cN : Cal P w K mg base 1 "is_name" (spName K)) (cP : Cal P w K mg base 3 "is_parts" (spParts K)) : Cal P w K mg base 4 "is_firing" (spFiring K) := by
  refine D.calD scFiring (fun ds ⟨a, e, _⟩ => by rw [e]; rfl) fun f cdv A outer s H E hr => ⟨_, pss_cons (ps_if (pt_not (pt_val (pe_d cT hr (by decide) (by rfl) (pa_cons (pv 0) (pa_cons pe_int pa_nil))))) (pss_one (ps_ret pe_bl)) pss_nil)
    (pss_cons (ps_asg (pv 0) (pg_tup rfl (pgs_cons (pg_name (i := 1) scFiring.nd rfl (.inl rfl)) (pgs_cons (pg_name (i := 2) scFiring.nd rfl (.inl rfl)) (pgs_cons (pg_name (i := 3) scFiring.nd rfl (.inl rfl)) (pgs_cons (pg_name (i := 4) scFiring.nd rfl (.inl rfl)) pgs_nil))))))
    (pss_one (ps_ret (pe_and (pe_d cN hr (by decide) (by rfl) (pa_cons (pv 1) pa_nil))
      (pe_and (pe_or (pe_cmpR (op_eqD hr.units) (pv 2) pe_str (nomark _)) (pe_one (pe_d cN hr (by decide) (by rfl) (pa_cons (pv 2) pa_nil))))
      (pe_and (pe_d cP hr (by decide) (by rfl) (pa_cons (pv 3) pa_nil)) (pe_one (pe_d cP hr (by decide) (by rfl) (pa_cons (pv 4) pa_nil))))))))), ?_⟩
  rintro ds ⟨a, rfl, ha⟩
  cases ht : isTupleOf a 4 with
  | true =>
    obtain ⟨ds, rfl, hl⟩ := isTupleOf_tup ht
    obtain ⟨x, y, z, u, rfl⟩ := four_of hl
    have gx : gd 20 x = true := gd_in ha (by simp)
    have gy : gd 20 y = true := gd_in ha (by simp)
    have gz : gd 20 z = true := gd_in ha (by simp)
    have gu : gd 20 u = true := gd_in ha (by simp)
    refine run_seq (run_ifP (ept_not (ept_b (call1I (ea_cons (ep_var rfl) (ea_cons ep_int ea_nil)) ha k1I))) (fun h => by rw [ht] at h; cases h) fun _ => run_next ?_)
    refine run_seq (run_asg ((ep_var rfl).imp fun d e q => ?_))
    obtain ⟨rfl, rfl⟩ := q
    refine tgt_tup rfl (tgts_cons (tgt_name (tgts_cons (tgt_name (tgts_cons (tgt_name (tgts_cons (tgt_name (tgts_nil ?_)))))))))
    refine run_retP (ep_andV (call1 (ea_cons (ep_var rfl) ea_nil) gx k1) fun _ => ep_andV (ep_orV (ep_op (ep_var rfl) ep_str (rd_eqD (gd_shaped gy (by decide)) (by decide +kernel))) fun _ => call1 (ea_cons (ep_var rfl) ea_nil) gy k1) fun _ => ep_andV (call1 (ea_cons (ep_var rfl) ea_nil) gz k1) fun _ => call1 (ea_cons (ep_var rfl) ea_nil) gu k1) ⟨_, rfl, ?_⟩
    show PyData.bool (isName x && ((PyData.eqv y (.str "") || isName y) && (isParts z && isParts u))) = .bool (isName x && (PyData.eqv y (.str "") || isName y) && isParts z && isParts u)
    rw [Bool.and_assoc, Bool.and_assoc]
  | false =>
    refine run_seq (run_ifP (et_is (ept_not (ept_b (call1I (ea_cons (ep_var rfl) (ea_cons ep_int ea_nil)) ha k1I))) (show (!isTupleOf a 4) = true by rw [ht]; rfl)) (fun h => run_retP ep_bl ⟨_, rfl, ?_⟩) fun h => by cases h)
    have hc : isFiring a = false := by
      unfold isFiring
      split
      · cases ht
      · rfl
    rw [hc]
end
end Nt

set_option Elab.async false
set_option linter.all false
set_option autoImplicit false
set_option maxRecDepth 100000
set_option maxHeartbeats 4000000
namespace Nt
open PySem PySem.Spec PyProof.Rows L2 Lw
section
variable {P : Program} {w : World} {K : PySem.W.Frag} {mg : Str → Option Value} {base : Heap} {env : Lw.Env} {te : TE} {d : PyData}
/-! ### places_wrong -/
abbrev nPlaces : List Str := ["places", "ahead", "k", "place"]
theorem scPlaces : FnScope nPlaces ["places"] (defScope sPlaces) := ⟨rfl, rfl, rfl, by decide +kernel, rfl, by decide +kernel, by decide +kernel⟩
abbrev spPlaces (K : PySem.W.Frag) : Sp := spD K (fun ds => ∃ ps, ds = [.tuple ps] ∧ gd 20 (.tuple ps) = true) fun ds r => ∃ ps, ds = [.tuple ps] ∧ r = placesWrong 0 [] ps
theorem ok_places (D : DefAt K mg "places_wrong" sPlaces ["places"]) (B : Bi mg) (cC : Cal P w K mg base 2 "is_counted" (spCounted K)) : Cal P w K mg base 3 "places_wrong" (spPlaces K) := by
  refine D.calD scPlaces (fun ds ⟨a, e, _⟩ => by rw [e]; rfl) fun f cdv A outer s H E hr => ⟨_, pss_cons (ps_set (i := 1) scPlaces.nd rfl (.inl rfl) pe_dnewK)
    (pss_cons (ps_for PassesOwn.never rfl (pi_enumT (by rfl) B.enum (pa_cons (pv 0) pa_nil)) (pg_tup rfl (pgs_cons (pg_name (i := 2) scPlaces.nd rfl (.inl rfl)) (pgs_cons (pg_name (i := 3) scPlaces.nd rfl (.inl rfl)) pgs_nil)))
      (pss_cons (ps_if (pw_or (pt_not (pt_val (pe_d cC hr (by decide) (by rfl) (pa_cons (pv 3) (pa_cons pe_int pa_nil))))) (pw_or1 (pt_cmp (pc_din (hu_of hr) (pe_ix ix_tup (pv 3) pe_int (fun _ _ => rfl)) (pv 1)) (by with_unfolding_all rfl)))).pt (pss_one (ps_ret (pe_tup (pa_cons pe_str (pa_cons (pv 2) pa_nil))))) pss_nil)
      (pss_one (ps_dput (hu_of hr) (pv 1) (pe_ix ix_tup (pv 3) pe_int (fun _ _ => rfl)) pe_bl rfl))))
    (pss_one (ps_ret pe_non))), ?_⟩
  rintro ds ⟨ps, rfl, ha⟩
  obtain ⟨R, hRR⟩ : ∃ R, placesWrong 0 [] ps = R := ⟨_, rfl⟩
  refine run_seq (run_newK fun q => ?_)
  refine run_seq (run_for (ew_enumT (ea_cons (ep_var rfl) ea_nil)) (fun j e => ∃ kvs ah x2 x3, e = [some (.dat (.tuple ps)), some (.dic q kvs), x2, x3] ∧ placesWrong j ah (ps.drop j) = R ∧ (∀ z, (valV kvs (.inr z : Key)).isSome = ah.contains z) ∧ kvs.length ≤ j) ⟨[], [], none, none, rfl, hRR, fun z => rfl, Nat.le_refl _⟩ ?_ ?_)
  · rintro j d e hd ⟨kvs, ah, x2, x3, rfl, hR, hk, hl⟩
    obtain ⟨p, hp, rfl⟩ := pairsD_get hd
    have hj : j < ps.length := (List.getElem?_eq_some_iff.mp hp).1
    have gp : gd 20 p = true := gd_in ha (List.mem_of_getElem? hp)
    rw [List.drop_eq_getElem_cons hj, (List.getElem?_eq_some_iff.mp hp).2] at hR
    unfold placesWrong at hR
    refine tgt_tup rfl (tgts_cons (tgt_name (tgts_cons (tgt_name (tgts_nil ?_)))))
    cases hc : isCounted p 0 with
    | false =>
      rw [if_pos (by rw [hc]; rfl)] at hR
      refine run_seq (run_ifP (ept_or1 (et_is (ept_not (ept_b (call1I (ea_cons (ep_var rfl) (ea_cons ep_int ea_nil)) gp k1I))) (show (!isCounted p 0) = true by rw [hc]; rfl))) (fun _ => run_retP (ep_tup (ea_cons ep_str (ea_cons (ep_var rfl) ea_nil)) (by show 2 ≤ 100000; decide)) ⟨ps, rfl, ?_⟩) fun h => by cases h)
      rw [hRR, ← hR, show ((0 : Int) + (j : Int)) = (j : Int) from Int.zero_add _]
    | true =>
      obtain ⟨z, i, rfl, _, _, _⟩ := counted_form hc
      have x0 : atI [PyData.str z, .int i] 0 = some (.str z) := atI_nat (j := 0) rfl
      refine run_seq (run_ifP (ept_or (et_is (ept_not (ept_b (call1I (ea_cons (ep_var rfl) (ea_cons ep_int ea_nil)) gp k1I))) (show (!isCounted (.tuple [.str z, .int i]) 0) = false by rw [hc]; rfl)) fun _ => ept_b (ep_din (k := .inr z) (ep_op (ep_var rfl) ep_int (rd_ixT x0)) rfl rfl rfl)) (fun h => ?_) fun h => run_next ?_)
      · rw [Bool.false_or, hk z] at h
        rw [if_pos (by rw [hc]; exact h)] at hR
        refine run_retP (ep_tup (ea_cons ep_str (ea_cons (ep_var rfl) ea_nil)) (by show 2 ≤ 100000; decide)) ⟨ps, rfl, ?_⟩
        rw [hRR, ← hR, show ((0 : Int) + (j : Int)) = (j : Int) from Int.zero_add _]
      · rw [Bool.false_or, hk z] at h
        rw [if_neg (by rw [hc]; show ¬ (false || ah.contains z) = true; rw [Bool.false_or, h]; decide)] at hR
        refine run_dput (k := .inr z) (w := .bl true) rfl (fun σ H Q q => q) (ep_op (ep_var rfl) ep_int (rd_ixT x0)) rfl rfl (Nat.lt_of_le_of_lt hl (Nat.lt_of_lt_of_le hj (Nat.le_trans (gd_len ha) (by decide)))) ⟨putK kvs (.inr z) (.bl true), z :: ah, _, _, rfl, hR, fun y => ?_, ?_⟩
        · rw [valV_put, List.contains_cons]
          by_cases e : y = z
          · subst e
            simp
          · rw [if_neg fun q => e (Sum.inr.inj q), hk y, beq_eq_false_iff_ne.mpr e, Bool.false_or]
        · have := length_putK kvs (.inr z : Key) (V.bl true)
          omega
  · rintro e ⟨kvs, ah, x2, x3, rfl, hR, _, _⟩
    refine run_retP ep_non ⟨ps, rfl, ?_⟩
    rw [pairsD_len, List.drop_length] at hR
    exact hR.trans hRR.symm
/-! ### numbers_of -/
abbrev nNumbers : List Str := ["named", "k", "thing"]
theorem scNumbers : FnScope nNumbers ["named"] (defScope sNumbers) := ⟨rfl, rfl, rfl, by decide +kernel, rfl, by decide +kernel, by decide +kernel⟩
abbrev spNumbers (K : PySem.W.Frag) : Sp := spM K (fun ds => ∃ ps, ds = [.tuple ps] ∧ gd 20 (.tuple ps) = true ∧ ∀ p ∈ ps, isCounted p 0 = true) fun ds kvs => ∃ ps, ds = [.tuple ps] ∧ kvs = numKv ps
theorem own2 {vs : List Nat} {i j : Nat} (hi : i ∈ vs) (hj : j ∈ vs) {K : PySem.W.Frag} {n : Nat} : OwnG (gTup K n (gCons (gName i) (gCons (gName j) gNil))) vs := own_tup (owns_cons hi (owns_cons hj owns_nil))
theorem ok_numbers (D : DefAt K mg "numbers_of" sNumbers ["named"]) (B : Bi mg) : Cal P w K mg base 1 "numbers_of" (spNumbers K) := by
  refine D.cal scNumbers (fun vs H Q E h => ?_) fun f cdv A outer s H vs Q E hr h => ⟨_, pss_one (ps_ret (pe_dc (own := [("k", 1), ("thing", 2)]) (g := gTup K 2 (gCons (gName 1) (gCons (gName 2) gNil))) (tt := tYes) rfl scNumbers.nd (pi_enumT (by rfl) B.enum (pa_cons (pv 0) pa_nil)) (blkOk_by (own := [("k", 1), ("thing", 2)]) (N := nNumbers) (sc := defScope sNumbers) (by decide +kernel))
      (fun _ _ _ _ _ => pg_tup rfl (pgs_cons (pg_name (i := 1) scNumbers.nd rfl (Or.inl rfl)) (pgs_cons (pg_name (i := 2) scNumbers.nd rfl (Or.inl rfl)) pgs_nil))) (fun _ _ _ _ _ => pts_nil)
      (fun _ _ _ _ _ => pe_ix (ixT (K := K)) (pv 2) pe_int (fun _ _ => rfl)) (fun _ _ _ _ _ => pv 1))), ?_⟩
  · obtain ⟨I, ds, _, hv, ⟨ps, rfl, _⟩, _⟩ := h
    rw [dpA_len hv]
    rfl
  · obtain ⟨I, ds, hI, hv, ⟨ps, rfl, ha, hc⟩, k⟩ := h
    cases hv with
    | cons hv h0 =>
      cases h0
      rename_i v
      have E1 : EnvI K H I I (start nNumbers [v]) H [some (.dat (.tuple ps)), none, none] := by
        refine ⟨Ex.refl H, Ex.refl I, hI, fun _ _ h => h, rfl, fun i x e => ?_, fun i j x y _ hi _ cx _ => ?_⟩
        · match i, e with
          | 0, e =>
            have e' : x = .dat (.tuple ps) := by simpa using e.symm
            subst e'
            exact ⟨v, rfl, hv⟩
          | 1, e => simp at e
          | 2, e => simp at e
          | i + 3, e => simp at e
        · exfalso
          match i, hi with
          | 0, e =>
            have e' : x = .dat (.tuple ps) := by simpa using e.symm
            subst e'
            cases cx
          | 1, e => simp at e
          | 2, e => simp at e
          | i + 3, e => simp at e
      refine ev_dc (ew_enumT (ea_cons (ep_var rfl) ea_nil)) rfl (by rw [pairsD_len]; exact Nat.le_trans (gd_len ha) (by decide)) (own2 (by simp) (by simp)) keyD (fun d => .str (nameD (itemD d 1))) (fun d => itemD d 0) (fun d hd => ?_) H I I _ H E1 _ fun D I' H' hD hI' E' x' => ?_
      · obtain ⟨j, hj⟩ := List.getElem?_of_mem hd
        obtain ⟨p, hp, rfl⟩ := pairsD_get hj
        obtain ⟨z, i, rfl, _, _, _⟩ := counted_form (hc p (List.mem_of_getElem? hp))
        exact tgt_tup rfl (tgts_cons (tgt_name (tgts_cons (tgt_name (tgts_nil ⟨rfl, ep_op (ep_var rfl) ep_int (rd_ixT (show atI [PyData.str z, .int i] 0 = some (.str z) from atI_nat (j := 0) rfl)), ep_var rfl, rfl, rfl, rfl⟩)))))
      · refine k D H' I' _ hD hI' E'.oi E'.ih (fun a o h => E'.fh a o (by rw [upd_ne (ne_of_none h hD)]; exact h)) (fun a h1 h2 => ?_) (E'.fh D _ upd_same) ⟨ps, rfl, rfl⟩
        have z : a ≠ D := fun z => h1 (z ▸ hD)
        exact E'.fr a (by rw [upd_ne z]; exact h1) h2
/-! ### bad_part -/
abbrev nBad : List Str := ["numbers", "firing", "j", "parts", "last", "name", "_"]
theorem scBad : FnScope nBad ["numbers", "firing"] (defScope sBad) := ⟨rfl, rfl, rfl, by decide +kernel, rfl, by decide +kernel, by decide +kernel⟩
def numsOk (kvs : List (Key × V)) : Prop := ∀ z v, valV kvs (.inr z : Key) = some v → ∃ i, v = .int i
abbrev spBad (K : PySem.W.Frag) : Sp := spK K (fun kvs ds => ∃ f, ds = [f] ∧ numsOk kvs ∧ gd 20 f = true ∧ isFiring f = true) fun kvs ds r => ∃ f, ds = [f] ∧ r = badPart (numOf kvs) f
theorem ok_bad (D : DefAt K mg "bad_part" sBad ["numbers", "firing"]) : Cal P w K mg base 1 "bad_part" (spBad K) := by
  refine D.calK scBad (fun kvs ds ⟨f, e, _⟩ => by rw [e]; rfl) fun f cdv A outer s H E hr => ⟨_, pss_cons (ps_set (i := 2) scBad.nd rfl (.inl rfl) pe_int)
    (pss_cons (ps_for PassesOwn.never rfl (pi_tup (pe_tup (pa_cons (pe_ix ix_tup (pv 1) pe_int (fun _ _ => rfl)) (pa_cons (pe_ix ix_tup (pv 1) pe_int (fun _ _ => rfl)) pa_nil)))) (pg_name (i := 3) scBad.nd rfl (.inl rfl))
      (pss_cons (ps_set (i := 4) scBad.nd rfl (.inl rfl) (pe_un un_neg pe_int))
      (pss_one (ps_for PassesOwn.never rfl (pi_tup (pv 3)) (pg_tup rfl (pgs_cons (pg_name (i := 5) scBad.nd rfl (.inl rfl)) (pgs_cons (pg_name (i := 6) scBad.nd rfl (.inl rfl)) pgs_nil)))
        (pss_cons (ps_if (pw_or (pt_cmp (pc_dnotin (hu_of hr) (pv 5) (pv 0)) (by with_unfolding_all rfl)) (pw_or1 (pt_cmpR op_le (pe_dget (hu_of hr) (pv 0) (pv 5) (fun _ _ => rfl)) (pv 4) (nomark _)))).pt (pss_one (ps_ret (pv 2))) pss_nil)
        (pss_cons (ps_set (i := 4) scBad.nd rfl (.inl rfl) (pe_dget (hu_of hr) (pv 0) (pv 5) (fun _ _ => rfl)))
        (pss_one (ps_aug (i := 2) scBad.nd rfl (.inl rfl) pe_int ip_add))))))))
    (pss_one (ps_ret pe_non))), ?_⟩
  rintro q kvs ds ⟨fi, rfl, hn, gf, hf⟩
  obtain ⟨z0, l, t, g, rfl, _, _, ht, hg⟩ := firing_form hf
  obtain ⟨ts, rfl, hts⟩ := parts_form ht
  obtain ⟨gs, rfl, hgs⟩ := parts_form hg
  obtain ⟨R, hRR⟩ : ∃ R, badAll (numOf kvs) 0 [ts, gs] = R := ⟨_, rfl⟩
  have x2 : atI [PyData.str z0, l, .tuple ts, .tuple gs] 2 = some (.tuple ts) := atI_nat (j := 2) rfl
  have x3 : atI [PyData.str z0, l, .tuple ts, .tuple gs] 3 = some (.tuple gs) := atI_nat (j := 3) rfl
  refine run_seq (run_setP ep_int ?_)
  refine run_seq (run_for (ew_tup (ep_tup (ea_cons (ep_op (ep_var rfl) ep_int (rd_ixT x2)) (ea_cons (ep_op (ep_var rfl) ep_int (rd_ixT x3)) ea_nil)) (by show 2 ≤ 100000; decide)))
    (fun m e => ∃ (j : Int) (y3 y4 y5 y6 : Option Lw.Val), e = [some (.dic q kvs), some (.dat (.tuple [.str z0, l, .tuple ts, .tuple gs])), some (.dat (.int j)), y3, y4, y5, y6] ∧ badAll (numOf kvs) j ([ts, gs].drop m) = R) ⟨0, none, none, none, none, rfl, hRR⟩ ?_ ?_)
  · rintro m d e hd ⟨j, y3, y4, y5, y6, rfl, hR⟩
    -- one of the two
    obtain ⟨ps, rfl, hps, hR2⟩ : ∃ ps, d = .tuple ps ∧ (∀ x ∈ ps, isCounted x 1 = true) ∧ badAll (numOf kvs) j (ps :: [ts, gs].drop (m + 1)) = R := by
      match m, hd with
      | 0, hd =>
        have e : d = .tuple ts := by simpa using hd.symm
        exact ⟨ts, e, hts, hR⟩
      | 1, hd =>
        have e : d = .tuple gs := by simpa using hd.symm
        exact ⟨gs, e, hgs, hR⟩
      | m + 2, hd => simp at hd
    refine tgt_name ?_
    refine run_seq (run_setP (ep_un ep_int (show RU K _ (.int 1) (.int (-1)) from fun I H x _ hx Q q _ => by
      cases dp_int hx
      exact ⟨1, rfl, q _ (.int _)⟩)) ?_)
    refine run_for (ew_tup (ep_var rfl)) (fun i e => ∃ (j' la : Int) (y5 y6 : Option Lw.Val), e = [some (.dic q kvs), some (.dat (.tuple [.str z0, l, .tuple ts, .tuple gs])), some (.dat (.int j')), some (.dat (.tuple ps)), some (.dat (.int la)), y5, y6] ∧ badIn (numOf kvs) j' la (ps.drop i) = badIn (numOf kvs) j (-1) ps) ⟨j, -1, _, _, rfl, rfl⟩ ?_ ?_
    · rintro i d e hd ⟨j', la, y5, y6, rfl, hB⟩
      have hi : i < ps.length := (List.getElem?_eq_some_iff.mp hd).1
      obtain ⟨z, n, rfl, _, _, _⟩ := counted_form (hps d (List.mem_of_getElem? hd))
      rw [List.drop_eq_getElem_cons hi, (List.getElem?_eq_some_iff.mp hd).2] at hB
      have hB2 : (match numOf kvs z with | none => Sum.inl j' | some n => if n ≤ la then .inl j' else badIn (numOf kvs) (j' + 1) n (ps.drop (i + 1))) = badIn (numOf kvs) j (-1) ps := hB
      refine tgt_tup rfl (tgts_cons (tgt_name (tgts_cons (tgt_name (tgts_nil ?_)))))
      have fin : Sum.inl j' = badIn (numOf kvs) j (-1) ps → PyData.int j' = badPart (numOf kvs) (.tuple [.str z0, l, .tuple ts, .tuple gs]) := fun h => by
        have h1 : badAll (numOf kvs) j (ps :: [ts, gs].drop (m + 1)) = .int j' := by
          show (match badIn (numOf kvs) j (-1) ps with | .inl j => PyData.int j | .inr j => badAll (numOf kvs) j ([ts, gs].drop (m + 1))) = _
          rw [← h]
        exact (h1.symm.trans hR2).trans hRR.symm
      cases hv : valV kvs (.inr z : Key) with
      | none =>
        have hno : numOf kvs z = none := by unfold numOf; rw [hv]
        rw [hno] at hB2
        refine run_seq (run_ifP (ept_or1 (et_is (ept_b (ep_dnin (k := .inr z) (ep_var rfl) rfl rfl rfl)) (by rw [hv]; rfl))) (fun _ => run_retP (ep_var rfl) ⟨rfl, _, rfl, fin hB2⟩) fun h => by cases h)
      | some v =>
        obtain ⟨n', rfl⟩ := hn z v hv
        have hno : numOf kvs z = some n' := by unfold numOf; rw [hv]
        rw [hno] at hB2
        have hB3 : (if n' ≤ la then Sum.inl j' else badIn (numOf kvs) (j' + 1) n' (ps.drop (i + 1))) = badIn (numOf kvs) j (-1) ps := hB2
        refine run_seq (run_ifP (ept_or (et_is (ept_b (ep_dnin (k := .inr z) (ep_var rfl) rfl rfl rfl)) (show (!(valV kvs (.inr z : Key)).isSome) = false by rw [hv]; rfl)) fun _ => ept_test (ep_op (ep_dget (k := .inr z) (c := .int n') rfl (ep_var rfl) rfl rfl hv fun _ => .int n') (ep_var rfl) rd_IB)) (fun h => ?_) fun h => run_next ?_)
        · rw [Bool.false_or, decide_eq_true_eq] at h
          rw [if_pos h] at hB3
          exact run_retP (ep_var rfl) ⟨rfl, _, rfl, fin hB3⟩
        · rw [Bool.false_or, decide_eq_false_iff_not] at h
          rw [if_neg h] at hB3
          refine run_seq (run_setP (ep_dget (k := .inr z) (c := .int n') rfl (ep_var rfl) rfl rfl hv fun _ => .int n') ?_)
          exact run_aug rfl (ep_int.imp fun d e w => by
            obtain ⟨rfl, rfl⟩ := w
            exact ⟨1, rfl, _, _, _, _, rfl, hB3⟩)
    · rintro e ⟨j', la, y5, y6, rfl, hB⟩
      rw [List.drop_length] at hB
      refine ⟨j', _, _, _, _, rfl, ?_⟩
      have h1 : badAll (numOf kvs) j (ps :: [ts, gs].drop (m + 1)) = badAll (numOf kvs) j' ([ts, gs].drop (m + 1)) := by
        show (match badIn (numOf kvs) j (-1) ps with | .inl j => PyData.int j | .inr j => badAll (numOf kvs) j ([ts, gs].drop (m + 1))) = _
        rw [← hB]
        rfl
      exact h1.symm.trans hR2
  · rintro e ⟨j, y3, y4, y5, y6, rfl, hR⟩
    exact run_retP ep_non ⟨rfl, _, rfl, hR.trans hRR.symm⟩
/-! ### firings_wrong -/
abbrev nFirings : List Str := ["places", "firings", "numbers", "ahead", "k", "firing", "j"]
theorem scFirings : FnScope nFirings ["places", "firings"] (defScope sFirings) := ⟨rfl, rfl, rfl, by decide +kernel, rfl, by decide +kernel, by decide +kernel⟩
abbrev spFirings (K : PySem.W.Frag) : Sp := spD K (fun ds => ∃ ps fs, ds = [.tuple ps, .tuple fs] ∧ gd 20 (.tuple ps) = true ∧ gd 20 (.tuple fs) = true ∧ ∀ p ∈ ps, isCounted p 0 = true) fun ds r => ∃ ps fs, ds = [.tuple ps, .tuple fs] ∧ r = firingsWrong (numOf (numKv ps)) 0 [] fs
theorem ok_firings (D : DefAt K mg "firings_wrong" sFirings ["places", "firings"]) (B : Bi mg) (cN : Cal P w K mg base 1 "numbers_of" (spNumbers K)) (cF : Cal P w K mg base 4 "is_firing" (spFiring K)) (cB : Cal P w K mg base 1 "bad_part" (spBad K)) : Cal P w K mg base 5 "firings_wrong" (spFirings K) := by
  refine D.calD scFirings (fun ds ⟨a, b, e, _⟩ => by rw [e]; rfl) fun f cdv A outer s H E hr => ⟨_, pss_cons (ps_set (i := 2) scFirings.nd rfl (.inl rfl) (pe_d cN hr (by decide) (by rfl) (pa_cons (pv 0) pa_nil)))
    (pss_cons (ps_set (i := 3) scFirings.nd rfl (.inl rfl) pe_dnewK)
    (pss_cons (ps_for PassesOwn.never rfl (pi_enumT (by rfl) B.enum (pa_cons (pv 1) pa_nil)) (pg_tup rfl (pgs_cons (pg_name (i := 4) scFirings.nd rfl (.inl rfl)) (pgs_cons (pg_name (i := 5) scFirings.nd rfl (.inl rfl)) pgs_nil)))
      (pss_cons (ps_if (pw_or (pt_not (pt_val (pe_d cF hr (by decide) (by rfl) (pa_cons (pv 5) pa_nil)))) (pw_or1 (pt_cmp (pc_din (hu_of hr) (pe_ix ix_tup (pv 5) pe_int (fun _ _ => rfl)) (pv 3)) (by with_unfolding_all rfl)))).pt (pss_one (ps_ret (pe_tup (pa_cons pe_str (pa_cons (pv 4) pa_nil))))) pss_nil)
      (pss_cons (ps_dput (hu_of hr) (pv 3) (pe_ix ix_tup (pv 5) pe_int (fun _ _ => rfl)) pe_bl rfl)
      (pss_cons (ps_set (i := 6) scFirings.nd rfl (.inl rfl) (pe_d cB hr (by decide) (by rfl) (pa_cons (pv 2) (pa_cons (pv 5) pa_nil))))
      (pss_one (ps_if (pt_cmpR op_notN (pv 6) pe_non (nomark _)) (pss_one (ps_ret (pe_tup (pa_cons pe_str (pa_cons (pv 4) (pa_cons (pv 6) pa_nil)))))) pss_nil))))))
    (pss_one (ps_ret pe_non)))), ?_⟩
  rintro ds ⟨ps, fs, rfl, gp, gf, hc⟩
  obtain ⟨R, hRR⟩ : ∃ R, firingsWrong (numOf (numKv ps)) 0 [] fs = R := ⟨_, rfl⟩
  refine run_seq (run_setM (ea_cons (ep_var rfl) ea_nil) ⟨ps, rfl, gp, hc⟩ fun q kvs ⟨ps', e, hkv⟩ => ?_)
  cases e
  subst hkv
  refine run_seq (run_newK fun q2 => ?_)
  refine run_seq (run_for (ew_enumT (ea_cons (ep_var rfl) ea_nil)) (fun j e => ∃ kvs ah x4 x5 x6, e = [some (.dat (.tuple ps)), some (.dat (.tuple fs)), some (.dic q (numKv ps)), some (.dic q2 kvs), x4, x5, x6] ∧ firingsWrong (numOf (numKv ps)) j ah (fs.drop j) = R ∧ (∀ z, (valV kvs (.inr z : Key)).isSome = ah.contains z) ∧ kvs.length ≤ j) ⟨[], [], none, none, none, rfl, hRR, fun z => rfl, Nat.le_refl _⟩ ?_ ?_)
  · rintro j d e hd ⟨kvs, ah, x4, x5, x6, rfl, hR, hk, hl⟩
    obtain ⟨p, hp, rfl⟩ := pairsD_get hd
    have hj : j < fs.length := (List.getElem?_eq_some_iff.mp hp).1
    have g1 : gd 20 p = true := gd_in gf (List.mem_of_getElem? hp)
    have ej : ((0 : Int) + (j : Int)) = (j : Int) := Int.zero_add _
    rw [List.drop_eq_getElem_cons hj, (List.getElem?_eq_some_iff.mp hp).2] at hR
    unfold firingsWrong at hR
    refine tgt_tup rfl (tgts_cons (tgt_name (tgts_cons (tgt_name (tgts_nil ?_)))))
    cases hf : isFiring p with
    | false =>
      rw [if_pos (by rw [hf]; rfl)] at hR
      refine run_seq (run_ifP (ept_or1 (et_is (ept_not (ept_b (call1 (ea_cons (ep_var rfl) ea_nil) g1 k1))) (show (!isFiring p) = true by rw [hf]; rfl))) (fun _ => run_retP (ep_tup (ea_cons ep_str (ea_cons (ep_var rfl) ea_nil)) (by show 2 ≤ 100000; decide)) ⟨ps, fs, rfl, ?_⟩) fun h => by cases h)
      rw [hRR, ← hR, ej]
    | true =>
      obtain ⟨z, l, t, g, rfl, _, _, _, _⟩ := firing_form hf
      have x0 : atI [PyData.str z, l, t, g] 0 = some (.str z) := atI_nat (j := 0) rfl
      refine run_seq (run_ifP (ept_or (et_is (ept_not (ept_b (call1 (ea_cons (ep_var rfl) ea_nil) g1 k1))) (show (!isFiring (.tuple [.str z, l, t, g])) = false by rw [hf]; rfl)) fun _ => ept_b (ep_din (k := .inr z) (ep_op (ep_var rfl) ep_int (rd_ixT x0)) rfl rfl rfl)) (fun h => ?_) fun h => run_next ?_)
      · rw [Bool.false_or, hk z] at h
        rw [if_pos (by rw [hf]; exact h)] at hR
        refine run_retP (ep_tup (ea_cons ep_str (ea_cons (ep_var rfl) ea_nil)) (by show 2 ≤ 100000; decide)) ⟨ps, fs, rfl, ?_⟩
        rw [hRR, ← hR, ej]
      · rw [Bool.false_or, hk z] at h
        rw [if_neg (by rw [hf]; show ¬ (false || ah.contains z) = true; rw [Bool.false_or, h]; decide)] at hR
        refine run_seq (run_dput (k := .inr z) (w := .bl true) rfl (fun σ H Q q => q) (ep_op (ep_var rfl) ep_int (rd_ixT x0)) rfl rfl (Nat.lt_of_le_of_lt hl (Nat.lt_of_lt_of_le hj (Nat.le_trans (gd_len gf) (by decide)))) ?_)
        refine run_seq (run_setP (ep_callK (c := badPart (numOf (numKv ps)) (.tuple [.str z, l, t, g])) rfl (ea_cons (ep_var rfl) ea_nil) ⟨_, rfl, numKv_ok ps, g1, hf⟩ fun d ⟨f', e, h⟩ => by
          cases e
          exact h) ?_)
        refine run_ifP (ept_test (ep_op (ep_var rfl) ep_non rd_notN)) (fun h => ?_) fun h => run_next ?_
        · have hb : isNoneD (badPart (numOf (numKv ps)) (.tuple [.str z, l, t, g])) = false := by simpa using h
          rw [if_neg (by rw [hb]; decide)] at hR
          refine run_retP (ep_tup (ea_cons ep_str (ea_cons (ep_var rfl) (ea_cons (ep_var rfl) ea_nil))) (by show 3 ≤ 100000; decide)) ⟨ps, fs, rfl, ?_⟩
          rw [hRR, ← hR, ej]
        · have hb : isNoneD (badPart (numOf (numKv ps)) (.tuple [.str z, l, t, g])) = true := by simpa using h
          rw [if_pos hb] at hR
          refine ⟨putK kvs (.inr z) (.bl true), z :: ah, _, _, _, rfl, hR, fun y => ?_, ?_⟩
          · rw [valV_put, List.contains_cons]
            by_cases e : y = z
            · subst e
              simp
            · rw [if_neg fun q => e (Sum.inr.inj q), hk y, beq_eq_false_iff_ne.mpr e, Bool.false_or]
          · have := length_putK kvs (.inr z : Key) (V.bl true)
            omega
  · rintro e ⟨kvs, ah, x4, x5, x6, rfl, hR, _, _⟩
    refine run_retP ep_non ⟨ps, fs, rfl, ?_⟩
    rw [pairsD_len, List.drop_length] at hR
    exact hR.trans hRR.symm
/-! ### net_wrong -/
abbrev nNet : List Str := ["thing", "places", "firings", "wrong"]
theorem scNet : FnScope nNet ["thing"] (defScope sNet) := ⟨rfl, rfl, rfl, by decide +kernel, rfl, by decide +kernel, by decide +kernel⟩
abbrev spNet (K : PySem.W.Frag) : Sp := spD K (P1 20) fun ds r => ∃ a, ds = [a] ∧ r = netWrong a
theorem ok_net (D : DefAt K mg "net_wrong" sNet ["thing"]) (B : Bi mg) (C : Nc K mg) (cT : Cal P w K mg base 1 "is_tuple_of" (spTupOf K)) (cP : Cal P w K mg base 3 "places_wrong" (spPlaces K)) (cF : Cal P w K mg base 5 "firings_wrong" (spFirings K)) : CalF P w K mg base 6 "net_wrong" sNet ["thing"] (spNet K) := by
  refine D.calDF scNet (fun ds ⟨a, e, _⟩ => by rw [e]; rfl) fun f cdv A outer s H E hr => ⟨_, pss_cons (ps_if (pw_or (pt_not (pt_val (pe_d cT hr (by decide) (by rfl) (pa_cons (pv 0) (pa_cons pe_int pa_nil)))))
      (pw_or (pt_not (pt_val (pe_callB call_isi (by rfl) B.isi PyProof.Rows.boot_isinstance (pa_cons (pe_ix ix_tup (pv 0) pe_int (fun _ _ => rfl)) (pa_cons (bt B.tup PyProof.Rows.boot_tuple) pa_nil)))))
      (pw_or1 (pt_not (pt_val (pe_callB call_isi (by rfl) B.isi PyProof.Rows.boot_isinstance (pa_cons (pe_ix ix_tup (pv 0) pe_int (fun _ _ => rfl)) (pa_cons (bt B.tup PyProof.Rows.boot_tuple) pa_nil)))))))).pt (pss_one (ps_ret (pe_tup (pa_cons pe_str pa_nil)))) pss_nil)
    (pss_cons (ps_asg (pv 0) (pg_tup rfl (pgs_cons (pg_name (i := 1) scNet.nd rfl (.inl rfl)) (pgs_cons (pg_name (i := 2) scNet.nd rfl (.inl rfl)) pgs_nil))))
    (pss_cons (ps_if (pt_cmpR op_eq (pe_callB call_len (by rfl) B.len PySem.boot_len (pa_cons (pv 1) pa_nil)) pe_int (nomark _)) (pss_one (ps_ret (pe_tup (pa_cons pe_str pa_nil)))) pss_nil)
    (pss_cons (ps_set (i := 3) scNet.nd rfl (.inl rfl) (pe_d cP hr (by decide) (by rfl) (pa_cons (pv 1) pa_nil)))
    (pss_cons (ps_if (pt_cmpR op_isN (pv 3) pe_non (nomark _)) (pss_one (ps_set (i := 3) scNet.nd rfl (.inl rfl) (pe_d cF hr (by decide) (by rfl) (pa_cons (pv 1) (pa_cons (pv 2) pa_nil))))) pss_nil)
    (pss_cons (ps_if (pw_and (pt_cmpR op_isN (pv 3) pe_non (nomark _)) (pw_and1 (pw_or (pt_cmpR op_gt (pe_callB call_len (by rfl) B.len PySem.boot_len (pa_cons (pv 1) pa_nil)) (gk C.mp) (nomark _)) (pw_or1 (pt_cmpR op_gt (pe_callB call_len (by rfl) B.len PySem.boot_len (pa_cons (pv 2) pa_nil)) (gk C.mf) (nomark _)))).pt)).pt
      (pss_one (ps_set (i := 3) scNet.nd rfl (.inl rfl) (pe_tup (pa_cons pe_str pa_nil)))) pss_nil)
    (pss_one (ps_ret (pv 3)))))))), ?_⟩
  rintro ds ⟨a, rfl, ha⟩
  have one : ∀ {z : Str} {e : Lw.Env}, EvP K (tTup (tCons (tC (.str z)) tNil)) e (oneD z) := fun {z e} => ep_tup (ea_cons ep_str ea_nil) (by show 1 ≤ 100000; decide)
  cases ht : isTupleOf a 2 with
  | false =>
    refine run_seq (run_ifP (ept_or1 (et_is (ept_not (ept_b (call1I (ea_cons (ep_var rfl) (ea_cons ep_int ea_nil)) ha k1I))) (show (!isTupleOf a 2) = true by rw [ht]; rfl))) (fun _ => run_retP one ⟨a, rfl, ?_⟩) fun h => by cases h)
    unfold netWrong
    split
    · cases ht
    · rfl
  | true =>
    obtain ⟨ds, rfl, hl⟩ := isTupleOf_tup ht
    obtain ⟨x, y, rfl⟩ := two_of hl
    have gx : gd 20 x = true := gd_in ha (by simp)
    have gy : gd 20 y = true := gd_in ha (by simp)
    have x0 : atI [x, y] 0 = some x := atI_nat (j := 0) rfl
    have x1 : atI [x, y] 1 = some y := atI_nat (j := 1) rfl
    refine run_seq (run_ifP (ept_or (et_is (ept_not (ept_b (call1I (ea_cons (ep_var rfl) (ea_cons ep_int ea_nil)) ha k1I))) (show (!isTupleOf (.tuple [x, y]) 2) = false by rw [ht]; rfl)) fun _ =>
      ept_or (ept_not (ept_b (isi_tup (ep_op (ep_var rfl) ep_int (rd_ixT x0)) (gd_nd gx)))) fun _ => ept_not (ept_b (isi_tup (ep_op (ep_var rfl) ep_int (rd_ixT x1)) (gd_nd gy)))) (fun h => run_retP one ⟨_, rfl, ?_⟩) fun h => run_next ?_)
    · rw [Bool.false_or, Bool.or_eq_true] at h
      unfold netWrong
      split
      · rename_i e
        cases e
        rcases h with h | h <;> cases h
      · rfl
    · rw [Bool.false_or, Bool.or_eq_false_iff] at h
      obtain ⟨ps, rfl⟩ : ∃ ps, x = .tuple ps := by cases x <;> first | exact ⟨_, rfl⟩ | exact Bool.noConfusion (show true = false from h.1)
      obtain ⟨fs, rfl⟩ : ∃ ps, y = .tuple ps := by cases y <;> first | exact ⟨_, rfl⟩ | exact Bool.noConfusion (show true = false from h.2)
      refine run_seq (run_asg ((ep_var rfl).imp fun d e q => ?_))
      obtain ⟨rfl, rfl⟩ := q
      refine tgt_tup rfl (tgts_cons (tgt_name (tgts_cons (tgt_name (tgts_nil ?_)))))
      refine run_seq (run_ifP (ept_test (ep_op (ep_cb (ea_cons (ep_var rfl) ea_nil) (rc_len rfl)) ep_int rd_eqI)) (fun h => run_retP one ⟨_, rfl, ?_⟩) fun h => run_next ?_)
      · have h0 : ps.length = 0 := by
          have := of_decide_eq_true h
          omega
        have h1 : ps = [] := List.length_eq_zero_iff.mp h0
        subst h1
        rfl
      · have hne : ps.isEmpty = false := by
          cases ps with
          | nil => exact absurd h (by decide)
          | cons _ _ => rfl
        have hN : netWrong (.tuple [.tuple ps, .tuple fs]) = netWrong2 ps fs := by
          show (if ps.isEmpty = true then _ else _) = _
          rw [if_neg (by rw [hne]; decide)]
        refine run_seq (run_setP (ep_callD (c := placesWrong 0 [] ps) (ea_cons (ep_var rfl) ea_nil) ⟨ps, rfl, gx⟩ fun d ⟨ps', e, h⟩ => by
          cases e
          exact h) ?_)
        -- what is wrong behind the second test
        refine run_seqI (M := fun e => ∃ wr, e = [some (.dat (.tuple [.tuple ps, .tuple fs])), some (.dat (.tuple ps)), some (.dat (.tuple fs)), some (.dat wr)] ∧ wr = if isNoneD (placesWrong 0 [] ps) = true then firingsWrong (numOf (numKv ps)) 0 [] fs else placesWrong 0 [] ps)
          (run_ifP (ept_test (ep_op (ep_var rfl) ep_non rd_isN)) (fun h => run_setP (ep_callD (c := firingsWrong (numOf (numKv ps)) 0 [] fs) (ea_cons (ep_var rfl) (ea_cons (ep_var rfl) ea_nil)) ⟨ps, fs, rfl, gx, gy, placesWrong_none ps 0 [] h⟩ fun d ⟨ps', fs', e, h⟩ => by
            cases e
            exact h) ⟨_, rfl, by rw [if_pos h]⟩) fun h => run_next ⟨_, rfl, by rw [if_neg (by rw [h]; decide)]⟩) ?_
        rintro e ⟨wr, rfl, hwr⟩
        have hN2 : netWrong2 ps fs = if (isNoneD wr && (decide (40 < (ps.length : Int)) || decide (60 < (fs.length : Int)))) = true then oneD "great" else wr := by
          rw [hwr]
          rfl
        refine run_seqI (M := fun e => e[3]? = some (some (.dat (netWrong2 ps fs))))
          (run_ifP (ept_and (ept_test (ep_op (ep_var rfl) ep_non rd_isN)) fun _ => ept_or (ept_test (ep_op (ep_cb (ea_cons (ep_var rfl) ea_nil) (rc_len rfl)) (ep_c fun _ => .int 40) rd_IB)) fun _ => ept_test (ep_op (ep_cb (ea_cons (ep_var rfl) ea_nil) (rc_len rfl)) (ep_c fun _ => .int 60) rd_IB)) (fun h => run_setP one (by
            rw [hN2, if_pos h]
            rfl)) fun h => run_next (by
            rw [hN2, if_neg (by rw [h]; decide)]
            rfl)) ?_
        intro e he
        exact run_retP (ep_var he) ⟨_, rfl, hN.symm⟩
end
end Nt

set_option Elab.async false
set_option linter.all false
set_option autoImplicit false
set_option maxRecDepth 100000
set_option maxHeartbeats 4000000
/-! check_net, of what is a net. -/
namespace Nt
open PySem PySem.Spec PyProof.Rows L2 Lw Px
abbrev sCheck : Stmt := topS 24
section
variable {P : Program} {w : World} {K : PySem.W.Frag} {mg : Str → Option Value} {base : Heap}
theorem scCheck : FnScope ["net", "wrong"] ["net"] (defScope sCheck) := ⟨rfl, rfl, rfl, by decide +kernel, rfl, by decide +kernel, by decide +kernel⟩
abbrev spCheck (K : PySem.W.Frag) : Sp := spD K (fun ds => ∃ a, ds = [a] ∧ gd 20 a = true ∧ netWrong a = .none) fun _ r => r = .none
theorem ok_check (D : DefAt K mg "check_net" sCheck ["net"]) (cN : Cal P w K mg base 6 "net_wrong" (spNet K)) : Cal P w K mg base 7 "check_net" (spCheck K) := by
  refine D.calD scCheck (fun ds ⟨a, e, _⟩ => by rw [e]; rfl) fun f cdv A outer s H E hr => ⟨_, pss_cons (ps_set (i := 1) scCheck.nd rfl (.inl rfl) (pe_d cN hr (by decide) (by rfl) (pa_cons (pv 0) pa_nil)))
    (pss_one (ps_if (pt_cmpR op_notN (pv 1) pe_non (nomark _)) pss_no pss_nil)), ?_⟩
  rintro ds ⟨a, rfl, ha, hw⟩
  refine run_seq (run_setP (d := netWrong a) (ep_callD (ea_cons (ep_var rfl) ea_nil) ⟨a, rfl, ha⟩ fun d ⟨a', e1, e2⟩ => by cases e1; exact e2) ?_)
  rw [hw]
  exact run_ifN (et_is (ept_test (ep_op (ep_var rfl) ep_non rd_notN)) rfl) (run_next rfl)
/-- what is a net -/
def netB (a : PyData) : Bool := gd 20 a && isNoneD (netWrong a)
def f_check_net : Fn := fun A ds => match A, ds with
  | .no, [a] => if netB a = true then some (.dat .none, []) else none
  | _, _ => none
theorem ok_check_net (c : Cal P w K mg base 7 "check_net" (spCheck K)) : Cal P w K mg base 7 "check_net" (spG K f_check_net) := Cal.toG c fun A ds r bs h => by
  unfold f_check_net at h
  split at h
  · rename_i a
    split at h
    · rename_i hn
      cases h
      have hn := Bool.and_eq_true_iff.mp hn
      refine ⟨rfl, ⟨a, rfl, hn.1, ?_⟩, fun d hd => by rw [hd]⟩
      cases hz : netWrong a with
      | none => rfl
      | _ => rw [hz] at hn; exact absurd hn.2 Bool.false_ne_true
    · cases h
  · cases h
def f_net_wrong : Fn := fun A ds => match A, ds with
  | .no, [a] => if gd 20 a = true then some (.dat (netWrong a), []) else none
  | _, _ => none
theorem ok_net_wrong (c : Cal P w K mg base 6 "net_wrong" (spNet K)) : Cal P w K mg base 6 "net_wrong" (spG K f_net_wrong) := Cal.toG c fun A ds r bs h => by
  unfold f_net_wrong at h
  split at h
  · rename_i a
    split at h
    · rename_i hn
      cases h
      exact ⟨rfl, ⟨a, rfl, hn⟩, fun d hd => by
        obtain ⟨a', e, q⟩ := hd
        cases e
        rw [q]⟩
    · cases h
  · cases h
end
end Nt

set_option Elab.async false
set_option linter.all false
set_option autoImplicit false
set_option maxRecDepth 100000
set_option maxHeartbeats 4000000
/-! zip of any number of lists and tuples. -/
namespace Zn
open PySem
open PySem.Sem (wp)
/-- what is walked: a list or a tuple -/
inductive Kd
  | l
  | t
def Kd.It : Kd → Heap → Addr → Addr → Nat → Prop
  | .l, h, it, a, i => h.IsListIter it a i
  | .t, h, it, a, i => h.IsTupleIter it a i
def Kd.Sq : Kd → Heap → Addr → Array Value → Prop
  | .l, h, a, xs => h.IsList a xs
  | .t, h, a, xs => h.IsTuple a xs
theorem It.at {h h' : Heap} {it a : Addr} {i : Nat} : ∀ {k : Kd}, k.It h it a i → (∀ o, h.get? it = some o → h'.get? it = some o) → k.It h' it a i
  | .l, x, e => Heap.IsListIter.at x e
  | .t, x, e => Heap.IsTupleIter.at x e
theorem Sq.at {h h' : Heap} {a : Addr} {xs : Array Value} : ∀ {k : Kd}, k.Sq h a xs → (∀ o, h.get? a = some o → h'.get? a = some o) → k.Sq h' a xs
  | .l, x, e => Heap.IsList.at x e
  | .t, x, e => Heap.IsTuple.at x e
section
variable {prog : Program} {w : World} {A : Around} {E : Value → Shared → Prop} {s : Shared}
theorem next_item {it a : Addr} {i : Nat} {xs : Array Value} {x : Value} {Q : Value → Shared → Prop} : ∀ {k : Kd}, k.It s.heap it a i → k.Sq s.heap a xs → xs[i]? = some x →
    (∀ h', k.It h' it a (i + 1) → Heap.SameBut it s.heap h' → Q x { s with heap := h' }) → wpAny (model prog w) A (Builtin.SmallTypes.nextOf (.ref it)) Q E s
  | .l, h1, h2, h3, h4 => wpAny_nextOf_list_item h1 h2 h3 h4
  | .t, h1, h2, h3, h4 => RZ.nextOf_tuple_item h1 h2 h3 h4
theorem next_end {it a : Addr} {i : Nat} {xs : Array Value} {Q : Value → Shared → Prop} (hh : A.handled = none) : ∀ {k : Kd}, k.It s.heap it a i → k.Sq s.heap a xs → xs[i]? = none →
    (∀ h' e, Heap.ExtBut it s.heap h' → (∃ o, h'.get? e = some o ∧ o.cls = .type "StopIteration") → E (.ref e) { s with heap := h' }) → wpAny (model prog w) A (Builtin.SmallTypes.nextOf (.ref it)) Q E s
  | .l, h1, h2, h3, h4 => wpAny_nextOf_list_end hh h1 h2 h3 h4
  | .t, h1, h2, h3, h4 => RZ.nextOf_tuple_end hh h1 h2 h3 h4
/-- a loop that goes on at each of its things -/
theorem forIn_inv {α β : Type} {f : α → β → Sem (ForInStep β)} {b : β} {Q : β → Shared → Prop} (J : List α → Shared → Prop)
    (hs : ∀ a r s1, J (a :: r) s1 → wpAny (model prog w) A (f a b) (fun y s2 => y = .yield b ∧ J r s2) E s1) (hd : ∀ s1, J [] s1 → Q b s1) : ∀ (xs : List α) (s1 : Shared), J xs s1 → wpAny (model prog w) A (forIn xs b f) Q E s1
  | [], s1, h => by
    rw [List.forIn_nil]
    exact wpAny_pure (hd s1 h)
  | a :: r, s1, h => by
    rw [List.forIn_cons]
    refine wpAny_bind (wpAny_mono (hs a r s1 h) ?_ fun _ _ z => z)
    rintro y s2 ⟨rfl, h2⟩
    exact forIn_inv J hs hd r s2 h2
end
/-- one of the walked: its kind, its iterator, where it lies, what it holds -/
structure Zc where
  k : Kd
  it : Addr
  a : Addr
  xs : Array Value
abbrev tupO (vs : List Value) : Obj := { cls := .type "tuple", data := .seq vs.toArray }
/-- the zip's objects lie apart -/
structure Apart (z TI TO : Addr) (cs : List Zc) : Prop where
  TIz : TI ≠ z
  TOz : TO ≠ z
  TITO : TI ≠ TO
  itz : ∀ c ∈ cs, c.it ≠ z
  itTI : ∀ c ∈ cs, c.it ≠ TI
  itTO : ∀ c ∈ cs, c.it ≠ TO
  nd : (cs.map (·.it)).Nodup
  az : ∀ c ∈ cs, c.a ≠ z
  aTO : ∀ c ∈ cs, c.a ≠ TO
  ait : ∀ c ∈ cs, ∀ d ∈ cs, c.a ≠ d.it
/-- how it stands at turn i -/
structure At (z TI TO : Addr) (f0 : Value) (cs : List Zc) (i : Nat) (h : Heap) : Prop where
  z : IsZip h z TI TO f0
  TI : h.get? TI = some (tupO (cs.map fun c => .ref c.it))
  TO : ∃ vs : List Value, vs.length = cs.length ∧ h.get? TO = some (tupO vs)
  its : ∀ c ∈ cs, c.k.It h c.it c.a i
section
variable {prog : Program} {w : World} {A : Around} {E : Value → Shared → Prop} {s : Shared}
abbrev Keeps (z TO : Addr) (cs : List Zc) (h h' : Heap) : Prop := ∀ c o, c ≠ z → c ≠ TO → (∀ d ∈ cs, c ≠ d.it) → h.get? c = some o → h'.get? c = some o
/-- in the midst of a turn: some are gone through -/
structure Mid (z TI TO : Addr) (i : Nat) (h0 : Heap) (cs dn td : List Zc) (h : Heap) : Prop where
  all : cs = dn ++ td
  zz : IsZip h z TI TO .ellipsis
  to : ∃ vs : List Value, vs.length = cs.length ∧ h.get? TO = some (tupO vs) ∧ ∀ (m : Nat) (c : Zc), dn[m]? = some c → vs[m]? = c.xs[i]? ∧ (c.xs[i]?).isSome = true
  dn : ∀ c ∈ dn, c.k.It h c.it c.a (i + 1)
  td : ∀ c ∈ td, c.k.It h c.it c.a i
  sz : h.objs.size = h0.objs.size
  kp : Keeps z TO cs h0 h
theorem upd_tup {T : Addr} {vs : List Value} {k : Nat} {x : Value} {Q : Unit → Shared → Prop} (hT : s.heap.get? T = some (tupO vs)) (hv : vs.length ≤ 8)
    (h : ∀ h', h'.get? T = some (tupO (vs.set k x)) → Heap.SameBut T s.heap h' → Q () { s with heap := h' }) : wpAny (model prog w) A (updateSeq T (·.setIfInBounds k x)) Q E s := by
  have s8 : 8 ≤ sizeLine := by decide
  refine wpAny_updateSeq hT rfl (h _ ?_ (Heap.SameBut.update ..)) (by rw [List.size_toArray]; omega) (by rw [Array.size_setIfInBounds, List.size_toArray]; omega)
  rw [Heap.get?_update_self _ hT rfl]
  simp [Obj.mapSeq]
theorem zipN_next {z TI TO : Addr} {cs : List Zc} {i : Nat} {Q : Value → Shared → Prop} (hh : A.handled = none) (D : Apart z TI TO cs) (S : At z TI TO .none cs i s.heap) (hne : cs ≠ []) (hsz : cs.length ≤ 8) (hl : ∀ c ∈ cs, c.k.Sq s.heap c.a c.xs)
    (hQ : ∀ h' (vs : List Value), vs.length = cs.length → (∀ (m : Nat) (c : Zc), cs[m]? = some c → vs[m]? = c.xs[i]? ∧ (c.xs[i]?).isSome = true) → At z TI TO (rawInt s.heap.objs.size) cs (i + 1) h' → h'.get? s.heap.objs.size = some (tupO vs) → h'.objs.size = s.heap.objs.size + 1 →
      Keeps z TO cs s.heap h' → Q (.ref s.heap.objs.size) { s with heap := h' })
    (hE : ∀ h' e, (∃ c ∈ cs, c.xs[i]? = none) → Keeps z TO cs s.heap h' → (∃ o, h'.get? e = some o ∧ o.cls = .type "StopIteration") → E (.ref e) { s with heap := h' }) :
    wpAny (model prog w) A (Builtin.«zip.__next__» ⟨[.ref z], []⟩) (fun fin s' => ∃ v, fin = .done (.ret v) ∧ Q v s') E s := by
  have hTIs : (tupO (cs.map fun c => Value.ref c.it)).data = .seq (cs.map fun c => Value.ref c.it).toArray := rfl
  show wpAny _ _ (field (.ref z) 2 >>= _) _ _ _
  refine wpAny_bind (wpAny_field S.z rfl (x := .bool false) rfl (wpAny_bind (wpAny_field S.z rfl (x := .ref TI) rfl (wpAny_bind (wpAny_seqItems S.TI hTIs ?_)))))
  have hem : (cs.map fun c => Value.ref c.it).toArray.isEmpty = false := by
    cases cs with
    | nil => exact absurd rfl hne
    | cons c r => simp
  dsimp only
  rw [hem, if_neg Bool.false_ne_true]
  refine wpAny_bind ?_
  unfold Builtin.SmallTypes.ownedTupleIsFree
  refine wpAny_bind (wpAny_field S.z rfl (x := .none) rfl (wpAny_pure ?_))
  rw [if_pos rfl]
  refine wpAny_bind (wpAny_rule (wpAny_bind (wpAny_field S.z rfl (x := .ref TO) rfl (wpAny_bind (wpAny_setField_rec S.z (by simp) fun h₁ hz₁ hs₁ => ?_)))))
  replace hz₁ : IsZip h₁ z TI TO .ellipsis := hz₁
  refine wpAny_bind (forIn_inv (J := fun rest s1 => ∃ dn td h, rest = (td.map fun c => Value.ref c.it).zipIdx dn.length ∧ Mid z TI TO i s.heap cs dn td h ∧ s1 = { s with heap := h }) ?_ ?_ _ _ ?_)
  · rintro a r s1 ⟨dn, td, h, er, M, rfl⟩
    cases td with
    | nil => cases er
    | cons c td =>
      rw [List.map_cons, List.zipIdx_cons] at er
      obtain ⟨rfl, rfl⟩ := List.cons.inj er
      have mc : c ∈ cs := by rw [M.all]; simp
      have hcz := D.itz c mc
      have hcTO := D.itTO c mc
      have hq : c.k.Sq h c.a c.xs := Sq.at (hl c mc) fun o e => M.kp c.a o (D.az c mc) (D.aTO c mc) (fun d hd => D.ait c mc d hd) e
      have hi := M.td c (by simp)
      refine wpAny_bind (wpAny_onRaise ?_)
      show wpAny _ _ (Builtin.SmallTypes.nextOf (.ref c.it) >>= _) _ _ _
      cases hx : c.xs[i]? with
      | none =>
        refine wpAny_bind (next_end hh hi hq hx fun h₂ e hs₂ ⟨oe, hoe, hce⟩ => ?_)
        have hz₂ : IsZip h₂ z TI TO .ellipsis := hs₂ _ _ hcz.symm M.zz
        have hez : e ≠ z := fun q => by
          subst q
          rw [hz₂] at hoe
          cases hoe
          simp at hce
        exact wpAny_setField_rec hz₂ (by simp) fun h₃ _ hs₃ => hE h₃ e ⟨c, mc, hx⟩ (fun b o b1 b2 b3 q => hs₃.extBut _ _ b1 (hs₂ _ _ (b3 c mc) (M.kp b o b1 b2 b3 q))) ⟨oe, hs₃.extBut _ _ hez hoe, hce⟩
      | some x =>
        refine wpAny_bind (next_item hi hq hx fun h₂ it₂ hs₂ => wpAny_pure ?_)
        obtain ⟨vs, vl, vTO, vat⟩ := M.to
        have hTO₂ : h₂.get? TO = some (tupO vs) := hs₂.extBut _ _ hcTO.symm vTO
        have hdn : dn.length < vs.length := by
          rw [vl, M.all, List.length_append, List.length_cons]
          omega
        have v8 : vs.length ≤ 8 := vl ▸ hsz
        refine wpAny_bind (wpAny_seqItems hTO₂ rfl (wpAny_bind (upd_tup hTO₂ v8 fun h₃ hTO₃ sb => ?_)))
        refine wpAny_bind (wpAny_letGo (wpAny_pure ⟨rfl, dn ++ [c], td, h₃, ?_, ?_, rfl⟩))
        · rw [List.length_append]
          rfl
        · have nd := D.nd
          rw [M.all, List.map_append, List.map_cons, List.nodup_append] at nd
          obtain ⟨_, nd2, nd3⟩ := nd
          rw [List.nodup_cons] at nd2
          have ne1 : ∀ d ∈ dn, d.it ≠ c.it := fun d hd => nd3 _ (List.mem_map_of_mem hd) _ (by simp)
          have ne2 : ∀ d ∈ td, d.it ≠ c.it := fun d hd q => nd2.1 (q ▸ List.mem_map_of_mem hd)
          have md1 : ∀ d ∈ dn, d ∈ cs := fun d hd => by rw [M.all]; simp [hd]
          have md2 : ∀ d ∈ td, d ∈ cs := fun d hd => by rw [M.all]; simp [hd]
          refine ⟨by rw [M.all, List.append_assoc]; rfl, sb.extBut _ _ D.TOz.symm (hs₂.extBut _ _ hcz.symm M.zz), ⟨vs.set dn.length x, by rw [List.length_set, vl], hTO₃, fun m d hm => ?_⟩, fun d hd => ?_, fun d hd => ?_, ?_, fun b o b1 b2 b3 q => sb.extBut _ _ b2 (hs₂.extBut _ _ (b3 c mc) (M.kp b o b1 b2 b3 q))⟩
          · by_cases hm2 : m < dn.length
            · rw [List.getElem?_append_left hm2] at hm
              rw [List.getElem?_set_ne (Nat.ne_of_gt hm2)]
              exact vat m d hm
            · have e : m = dn.length := by
                obtain ⟨hlt, _⟩ := List.getElem?_eq_some_iff.mp hm
                rw [List.length_append] at hlt
                have : [c].length = 1 := rfl
                omega
              subst e
              rw [List.getElem?_append_right (Nat.le_refl _), Nat.sub_self] at hm
              cases hm
              rw [List.getElem?_set_self hdn, hx]
              exact ⟨rfl, rfl⟩
          · rcases List.mem_append.mp hd with hd | hd
            · exact It.at (M.dn d hd) fun o q => sb.extBut _ _ (D.itTO d (md1 d hd)) (hs₂.extBut _ _ (ne1 d hd) q)
            · rw [List.mem_singleton.mp hd]
              exact It.at it₂ fun o q => sb.extBut _ _ hcTO q
          · exact It.at (M.td d (List.mem_cons_of_mem _ hd)) fun o q => sb.extBut _ _ (D.itTO d (md2 d hd)) (hs₂.extBut _ _ (ne2 d hd) q)
          · rw [sb.1, hs₂.1, M.sz]
  · rintro s1 ⟨dn, td, h, er, M, rfl⟩
    have htd : td = [] := by
      cases td with
      | nil => rfl
      | cons c td => cases er
    subst htd
    have hdn : cs = dn := by rw [M.all, List.append_nil]
    subst hdn
    obtain ⟨vs, vl, vTO, vat⟩ := M.to
    have v8 : vs.length ≤ 8 := vl ▸ hsz
    have s8 : 8 ≤ sizeLine := by decide
    show wpAny _ _ (seqItems? (.ref TO) >>= _) _ _ _
    refine wpAny_bind (wpAny_seqItems vTO rfl (wpAny_bind (wpAny_newTuple ?_ (by show vs.toArray.toList.length ≤ _; rw [List.toList_toArray]; omega))))
    show wpAny _ _ (Builtin.SmallTypes.ownedTupleHandOut (.ref z) (.ref h.objs.size) >>= _) _ _ _
    refine wpAny_bind ?_
    unfold Builtin.SmallTypes.ownedTupleHandOut
    have hzlt : z < h.objs.size := Heap.lt_size M.zz
    have hz6 : IsZip (h.push (tupO vs)) z TI TO .ellipsis := Heap.get?_push_of_some _ M.zz
    refine wpAny_bind (wpAny_setField_rec hz6 (by simp) fun h₇ hz₇ hs₇ => ?_)
    replace hz₇ : IsZip h₇ z TI TO (rawInt h.objs.size) := hz₇
    refine wpAny_setField_rec hz₇ (by simp) fun h₈ hz₈ hs₈ => ?_
    have up : ∀ b o, b ≠ z → h.get? b = some o → h₈.get? b = some o := fun b o b1 q => hs₈.extBut _ _ b1 (hs₇.extBut _ _ b1 (Heap.get?_push_of_some _ q))
    have hT : h₈.get? h.objs.size = some (tupO vs) := hs₈.extBut _ _ (Nat.ne_of_gt hzlt) (hs₇.extBut _ _ (Nat.ne_of_gt hzlt) (Heap.get?_push_size _ rfl))
    have hs8 : h₈.objs.size = h.objs.size + 1 := by rw [hs₈.1, hs₇.1, Heap.size_push]
    have hz8 : IsZip h₈ z TI TO (rawInt h.objs.size) := hz₈
    rw [M.sz] at hT hs8 hz8
    refine wpAny_pure ⟨_, rfl, ?_⟩
    show Q (.ref h.objs.size) _
    rw [M.sz]
    exact hQ h₈ vs vl vat ⟨hz8, up _ _ D.TIz (M.kp _ _ D.TIz D.TITO (fun d hd => (D.itTI d hd).symm) S.TI), ⟨vs, vl, up _ _ D.TOz vTO⟩, fun c hc => It.at (M.dn c hc) fun o q => up _ o (D.itz c hc) q⟩ hT hs8 fun b o b1 b2 b3 q => up b o b1 (M.kp b o b1 b2 b3 q)
  · obtain ⟨vs, vl, vTO⟩ := S.TO
    exact ⟨[], cs, h₁, rfl, ⟨rfl, hz₁, ⟨vs, vl, hs₁.extBut _ _ D.TOz vTO, fun m c hm => (nomatch hm)⟩, fun c hc => (nomatch hc), fun c hc => It.at (S.its c hc) fun o q => hs₁.extBut _ _ (D.itz c hc) q, hs₁.1, fun b o b1 _ _ q => hs₁.extBut _ _ b1 q⟩, rfl⟩
/-- next of it: the next tuple, or its end -/
theorem pyNext_zipN {z TI TO : Addr} {cs : List Zc} {i : Nat} {Q : Option Value → Shared → Prop} (hh : A.handled = none) (D : Apart z TI TO cs) (S : At z TI TO .none cs i s.heap) (hne : cs ≠ []) (hsz : cs.length ≤ 8) (hl : ∀ c ∈ cs, c.k.Sq s.heap c.a c.xs)
    (hQ : ∀ h' (vs : List Value), vs.length = cs.length → (∀ (m : Nat) (c : Zc), cs[m]? = some c → vs[m]? = c.xs[i]? ∧ (c.xs[i]?).isSome = true) → At z TI TO (rawInt s.heap.objs.size) cs (i + 1) h' → h'.get? s.heap.objs.size = some (tupO vs) → h'.objs.size = s.heap.objs.size + 1 →
      Keeps z TO cs s.heap h' → Q (some (.ref s.heap.objs.size)) { s with heap := h' })
    (hE : ∀ h', (∃ c ∈ cs, c.xs[i]? = none) → Keeps z TO cs s.heap h' → Q none { s with heap := h' }) : wpAny (model prog w) A (pyNext (.ref z)) Q E s := by
  have hT : s.TypeIs (.ref z) "zip" := ⟨_, S.z, rfl⟩
  unfold pyNext
  refine wpAny_bind (wpAny_attempt (wpAny_callSpecial?_slot (name := Str.ofString "__next__") hT F.slot_zip_next (wpAny_call_entry F.slot_zip_next hT F.entry_zip_next
    (zipN_next hh D S hne hsz hl (fun h' vs a1 a2 a3 a4 a5 a6 => wpAny_pure (hQ h' vs a1 a2 a3 a4 a5 a6)) fun h' e hx hk ⟨o, ho, hc⟩ => ?_) (F.args_zip_next_1 _))))
  exact wpAny_bind (wpAny_isInstance (T := "StopIteration") (b := true) ⟨o, ho, hc⟩ isSubtype_stop (wpAny_pure (hE _ hx hk)))
end
end Zn

set_option Elab.async false
set_option linter.all false
set_option autoImplicit false
set_option maxRecDepth 100000
set_option maxHeartbeats 4000000
namespace Zn
open PySem
open PySem.Sem (wp)
def Kd.cn : Kd → String
  | .l => "list_iterator"
  | .t => "tuple_iterator"
abbrev itO (k : Kd) (a : Addr) : Obj := { cls := .type k.cn, data := .fields #[.ref a, .int 0 0] }
theorem It.new {h : Heap} {it a : Addr} : ∀ {k : Kd}, h.get? it = some (itO k a) → k.It h it a 0
  | .l, e => ⟨_, e, rfl, rfl⟩
  | .t, e => ⟨_, e, rfl, rfl⟩
section
variable {prog : Program} {w : World} {A : Around} {E : Value → Shared → Prop} {s : Shared}
theorem pyIter_k {a : Addr} {xs : Array Value} {Q : Value → Shared → Prop} : ∀ {k : Kd}, k.Sq s.heap a xs → Q (.ref s.heap.objs.size) { s with heap := s.heap.push (itO k a) } → wpAny (model prog w) A (pyIter (.ref a)) Q E s
  | .l, h, q => wpAny_pyIter_list h q
  | .t, h, q => wpAny_pyIter_tuple h q
end
theorem Sq.push {k : Kd} {h : Heap} {a : Addr} {xs : Array Value} (x : k.Sq h a xs) (o : Obj) : k.Sq (h.push o) a xs := Sq.at x fun _ e => Heap.get?_push_of_some o e
/-- the heap behind the making of a zip -/
def itsH (h : Heap) : List (Kd × Addr) → Heap
  | [] => h
  | c :: r => itsH (h.push (itO c.1 c.2)) r
abbrev zipO (TI TO : Addr) : Obj := { cls := .type "zip", data := .fields #[.none, .bool false, .bool false, .ref TI, .ref TO] }
def refs : Heap → List (Kd × Addr) → List Value
  | _, [] => []
  | h, c :: r => .ref h.objs.size :: refs (h.push (itO c.1 c.2)) r
def zipH3 (h : Heap) (cs : List (Kd × Addr)) : Heap := (itsH h cs).push (tupO (refs h cs))
def zipH4 (h : Heap) (cs : List (Kd × Addr)) : Heap := (zipH3 h cs).push (tupO (cs.map fun _ => Value.none))
def zipH (h : Heap) (cs : List (Kd × Addr)) : Heap := (zipH4 h cs).push (zipO (itsH h cs).objs.size (zipH3 h cs).objs.size)
theorem itsH_size : ∀ (cs : List (Kd × Addr)) (h : Heap), (itsH h cs).objs.size = h.objs.size + cs.length
  | [], h => rfl
  | c :: r, h => by
    show (itsH _ r).objs.size = _
    rw [itsH_size r, Heap.size_push, List.length_cons]
    omega
theorem itsH_keep : ∀ (cs : List (Kd × Addr)) (h : Heap) (b : Addr) (o : Obj), h.get? b = some o → (itsH h cs).get? b = some o
  | [], _, _, _, e => e
  | c :: r, h, b, o, e => itsH_keep r _ b o (Heap.get?_push_of_some _ e)
theorem itsH_at : ∀ (cs : List (Kd × Addr)) (h : Heap) (j : Nat) (c : Kd × Addr), cs[j]? = some c → (itsH h cs).get? (h.objs.size + j) = some (itO c.1 c.2)
  | c :: r, h, 0, d, e => by
    cases e
    exact itsH_keep r _ _ _ (Heap.get?_push_size _ rfl)
  | c :: r, h, j + 1, d, e => by
    have q := itsH_at r (h.push (itO c.1 c.2)) j d e
    rw [Heap.size_push] at q
    rw [show h.objs.size + (j + 1) = h.objs.size + 1 + j by omega]
    exact q
theorem refs_eq : ∀ (cs : List (Kd × Addr)) (h : Heap), refs h cs = (List.range' h.objs.size cs.length).map Value.ref
  | [], _ => rfl
  | c :: r, h => by
    show _ :: refs _ r = _
    rw [refs_eq r, Heap.size_push, List.length_cons, List.range'_succ]
    rfl
theorem meets2 (k1 k2 : Kd) (a b : Addr) (xs ys : Array Value) : Meets (Builtin.«zip.__new__» ⟨[.type "zip", .ref a, .ref b], []⟩) (fun _ R s => k1.Sq s.heap a xs ∧ k2.Sq s.heap b ys ∧
    R (.ok (.ret (.ref (zipH4 s.heap [(k1, a), (k2, b)]).objs.size))) { s with heap := zipH s.heap [(k1, a), (k2, b)] }) :=
  .of_wp fun prog w A R s h => by
    obtain ⟨hp, g, d, tk, os⟩ := s
    obtain ⟨hl1, hl2, h⟩ := h
    have hsub := sub_zip
    have q1 : k1.Sq (Shared.heap ⟨hp, g, d, tk, os⟩) a xs := hl1
    have q2 : k2.Sq (Shared.heap ⟨hp.push (itO k1 a), g, d, tk, os⟩) b ys := Sq.push hl2 _
    wp_walk using pyIter_k q1, pyIter_k q2
    exact ⟨_, rfl, h⟩
theorem meets3 (k1 k2 k3 : Kd) (a b c : Addr) (xs ys zs : Array Value) : Meets (Builtin.«zip.__new__» ⟨[.type "zip", .ref a, .ref b, .ref c], []⟩) (fun _ R s => k1.Sq s.heap a xs ∧ k2.Sq s.heap b ys ∧ k3.Sq s.heap c zs ∧
    R (.ok (.ret (.ref (zipH4 s.heap [(k1, a), (k2, b), (k3, c)]).objs.size))) { s with heap := zipH s.heap [(k1, a), (k2, b), (k3, c)] }) :=
  .of_wp fun prog w A R s h => by
    obtain ⟨hp, g, d, tk, os⟩ := s
    obtain ⟨hl1, hl2, hl3, h⟩ := h
    have hsub := sub_zip
    have q1 : k1.Sq (Shared.heap ⟨hp, g, d, tk, os⟩) a xs := hl1
    have q2 : k2.Sq (Shared.heap ⟨hp.push (itO k1 a), g, d, tk, os⟩) b ys := Sq.push hl2 _
    have q3 : k3.Sq (Shared.heap ⟨(hp.push (itO k1 a)).push (itO k2 b), g, d, tk, os⟩) c zs := Sq.push (Sq.push hl3 _) _
    wp_walk using pyIter_k q1, pyIter_k q2, pyIter_k q3
    exact ⟨_, rfl, h⟩
theorem type3 (a b c : Value) : checkTypeCall "zip" ⟨[a, b, c], []⟩ = pure () := by kernel_rfl
theorem new3 (a b c : Value) : checkBuiltinCall "zip.__new__" ⟨[.type "zip", a, b, c], []⟩ = pure () := by kernel_rfl
theorem init4 (a b c d : Value) : argsOk "object.__init__" ⟨[a, b, c, d], []⟩ := by
  unfold argsOk
  rw [signature?_of (id := "object.__init__") (n := ['_', '_', 't', 'i', 'n', 'i', '_', '_']) (o := ['t', 'c', 'e', 'j', 'b', 'o']) (by kernel_rfl) F.owner_object]
  kernel_rfl
/-- the iterators, as they lie behind n -/
def zcs : Nat → List (Kd × Addr) → List (Array Value) → List Zc
  | _, [], _ => []
  | n, c :: r, xs => ⟨c.1, n, c.2, xs.headD #[]⟩ :: zcs (n + 1) r xs.tail
theorem zcs_len : ∀ (cs : List (Kd × Addr)) (n : Nat) (xs : List (Array Value)), (zcs n cs xs).length = cs.length
  | [], _, _ => rfl
  | _ :: r, n, xs => congrArg (· + 1) (zcs_len r (n + 1) xs.tail)
theorem zcs_it : ∀ (cs : List (Kd × Addr)) (n : Nat) (xs : List (Array Value)), (zcs n cs xs).map (·.it) = List.range' n cs.length
  | [], _, _ => rfl
  | _ :: r, n, xs => by
    rw [List.length_cons, List.range'_succ, ← zcs_it r (n + 1) xs.tail]
    rfl
theorem zcs_get : ∀ (cs : List (Kd × Addr)) (n : Nat) (xs : List (Array Value)) (c : Zc), c ∈ zcs n cs xs → ∃ j, @Eq Nat c.it (n + j) ∧ j < cs.length ∧ cs[j]? = some (c.k, c.a) ∧ c.xs = (xs[j]?).getD #[]
  | [], _, _, _, h => nomatch h
  | d :: r, n, xs, c, h => by
    rcases List.mem_cons.mp h with h | h
    · subst h
      refine ⟨0, rfl, Nat.succ_pos _, rfl, ?_⟩
      cases xs <;> rfl
    · obtain ⟨j, h1, h2, h3, h4⟩ := zcs_get r (n + 1) xs.tail c h
      refine ⟨j + 1, h1.trans (by omega), Nat.succ_lt_succ h2, h3, ?_⟩
      rw [h4]
      cases xs <;> rfl
/-- how it stands behind the making -/
theorem zip_made {h : Heap} {cs : List (Kd × Addr)} {xss : List (Array Value)} (hlt : ∀ c ∈ cs, c.2 < h.objs.size) :
    (zipH4 h cs).objs.size = h.objs.size + cs.length + 2 ∧ Apart (h.objs.size + cs.length + 2) (h.objs.size + cs.length) (h.objs.size + cs.length + 1) (zcs h.objs.size cs xss) ∧
      At (h.objs.size + cs.length + 2) (h.objs.size + cs.length) (h.objs.size + cs.length + 1) .none (zcs h.objs.size cs xss) 0 (zipH h cs) ∧ ∀ b o, h.get? b = some o → (zipH h cs).get? b = some o := by
  have s2 := itsH_size cs h
  have s3 : (zipH3 h cs).objs.size = h.objs.size + cs.length + 1 := by unfold zipH3; rw [Heap.size_push, s2]
  have s4 : (zipH4 h cs).objs.size = h.objs.size + cs.length + 2 := by unfold zipH4; rw [Heap.size_push, s3]
  have kp : ∀ b o, (itsH h cs).get? b = some o → (zipH h cs).get? b = some o := fun b o e => Heap.get?_push_of_some _ (Heap.get?_push_of_some _ (Heap.get?_push_of_some _ e))
  have nn : ∀ {a b : Addr}, @Ne Nat a b → a ≠ b := fun h => h
  have inx : ∀ c ∈ zcs h.objs.size cs xss, @LE.le Nat instLENat h.objs.size c.it ∧ @LT.lt Nat instLTNat c.it (h.objs.size + cs.length) ∧ @LT.lt Nat instLTNat c.a h.objs.size := fun c hc => by
    obtain ⟨j, h1, h2, h3, _⟩ := zcs_get _ _ _ _ hc
    exact ⟨by omega, by omega, hlt _ (List.mem_of_getElem? h3)⟩
  refine ⟨s4, ⟨nn (by omega), nn (by omega), nn (by omega), fun c hc => nn ?_, fun c hc => nn ?_, fun c hc => nn ?_, ?_, fun c hc => nn ?_, fun c hc => nn ?_, fun c hc d hd => nn ?_⟩, ⟨?_, ?_, ?_, fun c hc => ?_⟩, fun b o e => kp b o (itsH_keep cs h b o e)⟩
  · have := inx c hc; omega
  · have := inx c hc; omega
  · have := inx c hc; omega
  · rw [zcs_it]
    exact List.nodup_range'
  · have := inx c hc; omega
  · have := inx c hc; omega
  · have := inx c hc
    have := inx d hd
    omega
  · rw [← s4, ← s3, ← s2]
    exact Heap.get?_push_size _ rfl
  · have e : (zipH h cs).get? (itsH h cs).objs.size = some (tupO (refs h cs)) := Heap.get?_push_of_some _ (Heap.get?_push_of_some _ (Heap.get?_push_size _ rfl))
    rw [s2, refs_eq, ← zcs_it cs h.objs.size xss, List.map_map] at e
    exact e
  · have e : (zipH h cs).get? (zipH3 h cs).objs.size = some (tupO (cs.map fun _ => Value.none)) := Heap.get?_push_of_some _ (Heap.get?_push_size _ rfl)
    rw [s3] at e
    exact ⟨_, by rw [List.length_map, zcs_len], e⟩
  · obtain ⟨j, h1, h2, h3, _⟩ := zcs_get _ _ _ _ hc
    have e := kp _ _ (itsH_at cs h j _ h3)
    rw [← h1] at e
    exact It.new e
section
variable {prog : Program} {w : World} {A : Around} {E : Value → Shared → Prop} {s : Shared}
theorem call_zip2 {k1 k2 : Kd} {a b : Addr} {xs ys : Array Value} {Q : Value → Shared → Prop} (h1 : k1.Sq s.heap a xs) (h2 : k2.Sq s.heap b ys) (h : Q (.ref (zipH4 s.heap [(k1, a), (k2, b)]).objs.size) { s with heap := zipH s.heap [(k1, a), (k2, b)] }) :
    wpAny (model prog w) A (call (.type "zip") [.ref a, .ref b]) Q E s :=
  callType_new F.called_zip (by decide) (F.typeCall_zip_2 _ _) (F.newCall_zip_2 _ _) (fun obj => F.args_object_init_3 obj _ _) F.entry_zip_new (meets2 k1 k2 a b xs ys) ⟨h1, h2, ⟨_, Heap.get?_push_size _ rfl, rfl⟩, h⟩
theorem call_zip3 {k1 k2 k3 : Kd} {a b c : Addr} {xs ys zs : Array Value} {Q : Value → Shared → Prop} (h1 : k1.Sq s.heap a xs) (h2 : k2.Sq s.heap b ys) (h3 : k3.Sq s.heap c zs)
    (h : Q (.ref (zipH4 s.heap [(k1, a), (k2, b), (k3, c)]).objs.size) { s with heap := zipH s.heap [(k1, a), (k2, b), (k3, c)] }) : wpAny (model prog w) A (call (.type "zip") [.ref a, .ref b, .ref c]) Q E s :=
  callType_new F.called_zip (by decide) (type3 _ _ _) (new3 _ _ _) (fun obj => init4 obj _ _ _) F.entry_zip_new (meets3 k1 k2 k3 a b c xs ys zs) ⟨h1, h2, h3, ⟨_, Heap.get?_push_size _ rfl, rfl⟩, h⟩
end
end Zn

set_option Elab.async false
set_option linter.all false
set_option autoImplicit false
set_option maxRecDepth 100000
set_option maxHeartbeats 4000000
/-! zip: its turns. -/
namespace Zn
open PySem PySem.Spec PyProof.Rows L2
def Kd.Sv (k : Kd) (K : PySem.W.Frag) (H : Hp) (a : Addr) (xs : List V) : Prop := match k with
  | .l => SqL K H a xs
  | .t => SqT K H a xs
section
variable {X : Cx} {pins : List (Addr × Obj)} {σ : L2.St} {H : Hp} {s : Shared} {a : Addr} {xs ys : List V}
theorem Inv.seq (I : Inv X pins σ H s) : ∀ {k : Kd}, k.Sv X.K H a xs → ∃ its : List Value, Vals xs its ∧ k.Sq s.heap a its.toArray
  | .l, h => let ⟨its, r, p, _⟩ := I.list h; ⟨its, r, p.isList⟩
  | .t, h => let ⟨its, r, p, _⟩ := I.tuple h; ⟨its, r, p⟩
theorem Inv.seq_inj (I : Inv X pins σ H s) : ∀ {k : Kd}, k.Sv X.K H a xs → k.Sv X.K H a ys → xs = ys
  | .l, h, h' => I.list_inj h h'
  | .t, h, h' => I.tuple_inj h h'
end
theorem Sq.lt {h : Heap} {a : Addr} {xs : Array Value} : ∀ {k : Kd}, k.Sq h a xs → a < h.objs.size
  | .l, ⟨_, e, _⟩ => Heap.lt_size e
  | .t, ⟨_, e, _⟩ => Heap.lt_size e
/-- the lists and tuples as they stand at each turn, their items in new tuples -/
def ItN (K : PySem.W.Frag) (as : List (Kd × Addr)) : It :=
  ⟨fun i H => ∀ c ∈ as, ∃ (xs : List V) (x : V), c.1.Sv K H c.2 xs ∧ xs[i]? = some x,
    fun i H v H' => ∃ (T : Addr) (vs : List V), v = .ref T ∧ H T = none ∧ H' = upd H T (.tup vs) ∧ vs.length = as.length ∧ ∀ (m : Nat) (c : Kd × Addr) (xs : List V), as[m]? = some c → c.1.Sv K H c.2 xs → vs[m]? = xs[i]?,
    fun i H => (∀ c ∈ as, ∃ xs : List V, c.1.Sv K H c.2 xs) ∧ ∃ c ∈ as, ∃ xs : List V, c.1.Sv K H c.2 xs ∧ xs.length ≤ i⟩
theorem choose_all {α β : Type} {P : α → β → Prop} : ∀ {as : List α}, (∀ c ∈ as, ∃ x, P c x) → ∃ xs : List β, xs.length = as.length ∧ ∀ (j : Nat) (c : α), as[j]? = some c → ∃ x, xs[j]? = some x ∧ P c x
  | [], _ => ⟨[], rfl, fun j c h => (nomatch h)⟩
  | c :: r, h => by
    obtain ⟨x, hx⟩ := h c List.mem_cons_self
    obtain ⟨xs, hl, hs⟩ := choose_all (as := r) fun d hd => h d (List.mem_cons_of_mem _ hd)
    refine ⟨x :: xs, by rw [List.length_cons, List.length_cons, hl], fun j d e => ?_⟩
    cases j with
    | zero =>
      cases e
      exact ⟨x, rfl, hx⟩
    | succ j => exact hs j d e
theorem vals_get : ∀ {xs : List V} {us : List Value}, xs.length = us.length → (∀ (m : Nat) (x : V) (u : Value), xs[m]? = some x → us[m]? = some u → RelV x u) → Vals xs us
  | [], [], _, _ => .nil
  | [], _ :: _, h, _ => nomatch h
  | _ :: _, [], h, _ => nomatch h
  | x :: xs, u :: us, h, k => .cons (k 0 x u rfl rfl) (vals_get (Nat.succ.inj h) fun m => k (m + 1))
theorem zcs_at : ∀ (cs : List (Kd × Addr)) (n : Nat) (xs : List (Array Value)) (j : Nat) (c : Kd × Addr), cs[j]? = some c → (zcs n cs xs)[j]? = some ⟨c.1, n + j, c.2, (xs[j]?).getD #[]⟩
  | [], _, _, _, _, h => nomatch h
  | d :: r, n, xs, 0, c, h => by
    cases h
    cases xs <;> rfl
  | d :: r, n, xs, j + 1, c, h => by
    have e := zcs_at r (n + 1) xs.tail j c h
    rw [show n + (j + 1) = n + 1 + j by omega]
    have t : xs.tail[j]? = xs[j + 1]? := by cases xs <;> rfl
    rw [t] at e
    exact e
theorem At.re {z TI TO : Addr} {f0 : Value} {n i : Nat} {as : List (Kd × Addr)} {xs ys : List (Array Value)} {h : Heap} (S : At z TI TO f0 (zcs n as xs) i h) : At z TI TO f0 (zcs n as ys) i h := by
  have e : ∀ zs : List (Array Value), (zcs n as zs).map (fun c => Value.ref c.it) = (List.range' n as.length).map Value.ref := fun zs => by
    rw [← zcs_it as n zs, List.map_map]
    rfl
  refine ⟨S.z, ?_, ?_, fun c hc => ?_⟩
  · rw [e ys, ← e xs]
    exact S.TI
  · obtain ⟨vs, hv, ht⟩ := S.TO
    exact ⟨vs, by rw [hv, zcs_len, zcs_len], ht⟩
  · obtain ⟨j, h1, h2, h3, _⟩ := zcs_get _ _ _ _ hc
    have q := S.its _ (List.mem_of_getElem? (zcs_at as n xs j _ h3))
    have h1' : c.it = n + j := h1
    rw [h1']
    exact q
theorem Apart.re {z TI TO : Addr} {n : Nat} {as : List (Kd × Addr)} {xs ys : List (Array Value)} (D : Apart z TI TO (zcs n as xs)) : Apart z TI TO (zcs n as ys) := by
  have k : ∀ c ∈ zcs n as ys, ∃ d ∈ zcs n as xs, d.it = c.it ∧ d.a = c.a := fun c hc => by
    obtain ⟨j, h1, h2, h3, _⟩ := zcs_get _ _ _ _ hc
    exact ⟨_, List.mem_of_getElem? (zcs_at as n xs j _ h3), h1.symm, rfl⟩
  refine ⟨D.TIz, D.TOz, D.TITO, fun c hc => ?_, fun c hc => ?_, fun c hc => ?_, ?_, fun c hc => ?_, fun c hc => ?_, fun c hc d hd => ?_⟩
  · obtain ⟨d, hd, e1, e2⟩ := k c hc
    exact e1 ▸ D.itz d hd
  · obtain ⟨d, hd, e1, e2⟩ := k c hc
    exact e1 ▸ D.itTI d hd
  · obtain ⟨d, hd, e1, e2⟩ := k c hc
    exact e1 ▸ D.itTO d hd
  · rw [zcs_it, ← zcs_it as n xs]
    exact D.nd
  · obtain ⟨d, hd, e1, e2⟩ := k c hc
    exact e2 ▸ D.az d hd
  · obtain ⟨d, hd, e1, e2⟩ := k c hc
    exact e2 ▸ D.aTO d hd
  · obtain ⟨c', hc', e1, e2⟩ := k c hc
    obtain ⟨d', hd', e3, e4⟩ := k d hd
    rw [← e2, ← e3]
    exact D.ait c' hc' d' hd'
end Zn

set_option Elab.async false
set_option linter.all false
set_option autoImplicit false
set_option maxRecDepth 100000
set_option maxHeartbeats 4000000
/-! zip of two or three: its rule. -/
namespace Zn
open PySem PySem.Spec PyProof.Rows L2
theorem It.obj {h : Heap} {it a : Addr} {i : Nat} : ∀ {k : Kd}, k.It h it a i → ∃ o, h.get? it = some o ∧ ∀ v, o.data ≠ .cell v
  | .l, ⟨o, e, _, d⟩ => ⟨o, e, fun v q => by rw [d] at q; cases q⟩
  | .t, ⟨o, e, _, d⟩ => ⟨o, e, fun v q => by rw [d] at q; cases q⟩
abbrev fpZ (z TI TO : Addr) (n : Nat) (as : List (Kd × Addr)) : List Addr := z :: TI :: TO :: (zcs n as []).map (·.it)
/-- what is walked, as values and as what stands for them -/
theorem seqs {X : Cx} {pins : List (Addr × Obj)} {σ : L2.St} {H : Hp} {s : Shared} {as : List (Kd × Addr)} (I : Inv X pins σ H s) {R : Kd × Addr → List V → Prop} (h : ∀ c ∈ as, ∃ xs : List V, c.1.Sv X.K H c.2 xs ∧ R c xs) (n : Nat) :
    ∃ vus : List (List V × List Value), vus.length = as.length ∧ (∀ (j : Nat) (c : Kd × Addr), as[j]? = some c → ∃ p, vus[j]? = some p ∧ c.1.Sv X.K H c.2 p.1 ∧ R c p.1 ∧ Vals p.1 p.2) ∧ ∀ c ∈ zcs n as (vus.map fun p => p.2.toArray), c.k.Sq s.heap c.a c.xs := by
  obtain ⟨vus, hl, hs⟩ := choose_all (as := as) (P := fun c (p : List V × List Value) => c.1.Sv X.K H c.2 p.1 ∧ R c p.1 ∧ Vals p.1 p.2 ∧ c.1.Sq s.heap c.2 p.2.toArray) fun c hc => by
    obtain ⟨xs, h1, h2⟩ := h c hc
    obtain ⟨its, r, q⟩ := Inv.seq I h1
    exact ⟨(xs, its), h1, h2, r, q⟩
  refine ⟨vus, hl, fun j c e => ?_, fun c hc => ?_⟩
  · obtain ⟨p, e1, h1, h2, h3, _⟩ := hs j c e
    exact ⟨p, e1, h1, h2, h3⟩
  · obtain ⟨j, h1, h2, h3, h4⟩ := zcs_get _ _ _ _ hc
    obtain ⟨p, e1, _, _, _, q⟩ := hs j _ h3
    rw [h4, List.getElem?_map, e1]
    exact q
theorem turn_zipN {P : Program} {w : World} {K : PySem.W.Frag} {elts : List Expr} {kk : Nat} {tpos : Pos} {n : Nat} {as : List (Kd × Addr)} {z TI TO : Addr} (hne : as ≠ []) (h8 : as.length ≤ 8) (D : Apart z TI TO (zcs n as [])) :
    Turn P w K (.Tuple elts kk tpos) (ItN K as) (fpZ z TI TO n as) z (fun i h => At z TI TO .none (zcs n as []) i h) where
  mem := List.mem_cons_self
  obj := fun i h st b hb => by
    obtain ⟨vs, _, hTO⟩ := st.TO
    rcases List.mem_cons.mp hb with q | hb
    · rw [q]; exact ⟨_, st.z, fun v q => nomatch q⟩
    rcases List.mem_cons.mp hb with q | hb
    · rw [q]; exact ⟨_, st.TI, fun v q => nomatch q⟩
    rcases List.mem_cons.mp hb with q | hb
    · rw [q]; exact ⟨_, hTO, fun v q => nomatch q⟩
    obtain ⟨c, hc, e⟩ := List.mem_map.mp hb
    rw [← e]
    exact It.obj (st.its c hc)
  keep := fun i h h' st k => by
    obtain ⟨vs, hv, hTO⟩ := st.TO
    exact ⟨k z (by simp) _ st.z, k TI (by simp) _ st.TI, ⟨vs, hv, k TO (by simp) _ hTO⟩, fun c hc => It.at (st.its c hc) fun o q => k c.it (by simp only [fpZ, List.mem_cons, List.mem_map]; exact .inr (.inr (.inr ⟨c, hc, rfl⟩))) o q⟩
  item := by
    intro X hP hw hK hc i pins s σ H E I hf st hg
    subst hP hw hK
    obtain ⟨vus, hl, hs, hq⟩ := seqs I (R := fun c xs => ∃ x, xs[i]? = some x) (fun c h => let ⟨xs, x, h1, h2⟩ := hg c h; ⟨xs, h1, x, h2⟩) n
    have hz0 : z < s.heap.objs.size := Heap.lt_size st.z
    refine pyNext_zipN (I.ok.hd hc) D.re st.re (fun e => hne (List.length_eq_zero_iff.mp (by rw [← zcs_len as n, e]; rfl))) (by rw [zcs_len]; exact h8) hq (fun h' us ul uat S1 hT hsz hk => ?_) fun h' ⟨c, hc, hx⟩ _ => ?_
    · rw [zcs_len] at ul
      refine ⟨_, rfl, wpAny_letOwnedTupleGo_zip (s := { s with heap := h' }) S1.z fun h'' z'' sb => ?_⟩
      -- the new tuple's items
      let ws : List V := vus.map fun p => (p.1[i]?).getD .non
      have hwl : ws.length = as.length := by rw [List.length_map, hl]
      have hwat : ∀ (m : Nat) (c : Kd × Addr), as[m]? = some c → ∃ p : List V × List Value, vus[m]? = some p ∧ c.1.Sv X.K H c.2 p.1 ∧ Vals p.1 p.2 ∧ ws[m]? = p.1[i]? := fun m c e => by
        obtain ⟨p, e1, h1, ⟨x, h2⟩, h3⟩ := hs m c e
        refine ⟨p, e1, h1, h3, ?_⟩
        rw [List.getElem?_map, e1, h2]
        show some ((p.1[i]?).getD .non) = some x
        rw [h2]
        rfl
      have hvals : Vals ws us := vals_get (by rw [hwl, ul]) fun m x u e1 e2 => by
        have hm : m < as.length := by rw [← ul]; exact (List.getElem?_eq_some_iff.mp e2).1
        have ec : as[m]? = some as[m] := List.getElem?_eq_getElem hm
        obtain ⟨p, p1, p2, p3, p4⟩ := hwat m _ ec
        have eu := (uat m _ (zcs_at as n (vus.map fun p => p.2.toArray) m _ ec)).1
        rw [e1] at p4
        obtain ⟨u', hu', ru⟩ := p3.get p4.symm
        rw [List.getElem?_map, p1, e2] at eu
        have eu2 : some u = p.2[i]? := by simpa using eu
        rw [hu'] at eu2
        cases eu2
        exact ru
      have hT2 : h''.get? s.heap.objs.size = some (tupO us) := (sb.2 _ (Nat.ne_of_gt hz0)).trans hT
      have new : ObjOk X.prog X.w (upd H s.heap.objs.size (.tup ws)) h'' s.heap.objs.size (.tup ws) :=
        ⟨by show ws.length ≤ sizeLine; rw [hwl]; exact Nat.le_trans h8 (by decide), us, hvals, ⟨_, hT2, rfl, _, rfl⟩⟩
      have hfp : ∀ b, b ∉ fpZ z TI TO n as → b ≠ z ∧ b ≠ TO ∧ ∀ d ∈ zcs n as (vus.map fun p => p.2.toArray), b ≠ d.it := fun b hb => by
        simp only [fpZ, List.mem_cons, not_or] at hb
        refine ⟨hb.1, hb.2.2.1, fun d hd e => hb.2.2.2 ?_⟩
        rw [e, zcs_it, ← zcs_it as n (vus.map fun p => p.2.toArray)]
        exact List.mem_map_of_mem hd
      have I1 : Inv X pins σ (upd H s.heap.objs.size (.tup ws)) { s with heap := h'' } :=
        I.turnedNew (t' := s.toks) (ch := fpZ z TI TO n as) (fun c o hb q => (sb.2 c (hfp c hb).1).trans (hk c o (hfp c hb).1 (hfp c hb).2.1 (hfp c hb).2.2 q)) hf (Nat.le_refl _) new
      refine ⟨.ref s.heap.objs.size, _, I1, rfl, ⟨_, ws, rfl, I.hok.fresh (Nat.le_refl _), rfl, hwl, fun m c xs e hx => ?_⟩, ?_, fun c hcm => ?_⟩
      · obtain ⟨p, p1, p2, p3, p4⟩ := hwat m c e
        rw [p4, Inv.seq_inj I p2 hx]
      · obtain ⟨vs, hv, hTO⟩ := S1.TO
        have S2 : At z TI TO .none (zcs n as (vus.map fun p => p.2.toArray)) (i + 1) h'' := ⟨z'', (sb.2 _ D.TIz).trans S1.TI, ⟨vs, hv, (sb.2 _ D.TOz).trans hTO⟩, fun c hc => It.at (S1.its c hc) fun o q => (sb.2 _ ((Apart.re D (ys := vus.map fun p => p.2.toArray)).itz c hc)).trans q⟩
        exact S2.re
      · have hlt : ∃ o, s.heap.get? c = some o := by
          obtain ⟨vs, _, hTO⟩ := st.TO
          rcases List.mem_cons.mp hcm with q | hcm
          · rw [q]; exact ⟨_, st.z⟩
          rcases List.mem_cons.mp hcm with q | hcm
          · rw [q]; exact ⟨_, st.TI⟩
          rcases List.mem_cons.mp hcm with q | hcm
          · rw [q]; exact ⟨_, hTO⟩
          obtain ⟨d, hd, e⟩ := List.mem_map.mp hcm
          rw [← e]
          obtain ⟨o, ho, _⟩ := It.obj (st.its d hd)
          exact ⟨o, ho⟩
        obtain ⟨o, ho⟩ := hlt
        rw [upd_ne (Nat.ne_of_lt (Heap.lt_size ho))]
        exact (hf c hcm).1
    · exfalso
      obtain ⟨j, h1, h2, h3, h4⟩ := zcs_get _ _ _ _ hc
      obtain ⟨p, e1, _, ⟨x, hx2⟩, r⟩ := hs j _ h3
      obtain ⟨u, hu, _⟩ := r.get hx2
      rw [h4, List.getElem?_map, e1] at hx
      have hx' : p.2[i]? = none := by simpa using hx
      rw [hu] at hx'
      cases hx'
  done := by
    intro X hP hw hK hc i pins s σ H E I hf st hg
    subst hP hw hK
    obtain ⟨hall, c0, hc0, xs0, hx0, hle⟩ := hg
    obtain ⟨vus, hl, hs, hq⟩ := seqs I (R := fun _ _ => True) (fun c h => let ⟨xs, h1⟩ := hall c h; ⟨xs, h1, trivial⟩) n
    refine pyNext_zipN (I.ok.hd hc) D.re st.re (fun e => hne (List.length_eq_zero_iff.mp (by rw [← zcs_len as n, e]; rfl))) (by rw [zcs_len]; exact h8) hq (fun h' us ul uat S1 hT hsz hk => ?_) fun h' _ hk => ?_
    · exfalso
      obtain ⟨j, hj⟩ := List.mem_iff_getElem?.mp hc0
      obtain ⟨p, e1, h1, _, r⟩ := hs j c0 hj
      have q := (uat j _ (zcs_at as n (vus.map fun p => p.2.toArray) j c0 hj)).2
      rw [List.getElem?_map, e1] at q
      have q' : (p.2[i]?).isSome = true := by simpa using q
      have lx := r.length
      rw [Inv.seq_inj I h1 hx0] at lx
      obtain ⟨u, hu⟩ := Option.isSome_iff_exists.mp q'
      have := (List.getElem?_eq_some_iff.mp hu).1
      omega
    · refine ⟨rfl, I.turnedL (t' := s.toks) (ch := fpZ z TI TO n as) (fun b o hb q => ?_) hf⟩
      simp only [fpZ, List.mem_cons, not_or] at hb
      refine hk b o hb.1 hb.2.2.1 (fun d hd e => hb.2.2.2 ?_) q
      rw [e, zcs_it, ← zcs_it as n (vus.map fun p => p.2.toArray)]
      exact List.mem_map_of_mem hd
  self := fun A i s Q E st h => wpAny_pyIter_zip st.z h
def iZipN (K : PySem.W.Frag) (k : Nat) (ta : TA) : TI := fun σ H R => ta σ H fun vs H1 => ∃ as : List (Kd × Addr), as.length = k ∧ vs = as.map (fun c => V.ref c.2) ∧ (∀ c ∈ as, ∃ xs : List V, c.1.Sv K H1 c.2 xs) ∧ R (ItN K as) H1
section
variable {X : Cx} {p pos tpos : Pos} {elts : List Expr} {kk : Nat} {ta : TA}
/-- behind the call -/
theorem zip_pie {pins : List (Addr × Obj)} {σ : L2.St} {H1 : Hp} {s1 : Shared} {R : It → Hp → Prop} {as : List (Kd × Addr)} (I1 : Inv X pins σ H1 s1) (hne : as ≠ []) (h8 : as.length ≤ 8) (hlt : ∀ c ∈ as, c.2 < s1.heap.objs.size) (q : R (ItN X.K as) H1) :
    wpAny (model X.prog X.w) X.A (pyIter (.ref (zipH4 s1.heap as).objs.size)) (PIE X pins σ (.Tuple elts kk tpos) R) X.xe { s1 with heap := zipH s1.heap as } := by
  obtain ⟨hs, D, S, hk⟩ := zip_made (xss := []) hlt
  rw [hs]
  refine wpAny_pyIter_zip S.z ⟨_, fpZ (s1.heap.objs.size + as.length + 2) (s1.heap.objs.size + as.length) (s1.heap.objs.size + as.length + 1) s1.heap.objs.size as, _, _, H1, rfl, I1.kept (t' := s1.toks) hk, turn_zipN hne h8 D, S, fun b hb => ?_, q⟩
  have hle : s1.heap.objs.size ≤ b := by
    rcases List.mem_cons.mp hb with e | hb
    · rw [e]; exact Nat.le_trans (Nat.le_add_right _ as.length) (Nat.le_add_right _ 2)
    rcases List.mem_cons.mp hb with e | hb
    · rw [e]; exact Nat.le_add_right _ _
    rcases List.mem_cons.mp hb with e | hb
    · rw [e]; exact Nat.le_trans (Nat.le_add_right _ as.length) (Nat.le_add_right _ 1)
    rw [zcs_it] at hb
    exact (List.mem_range'_1.mp hb).1
  exact I1.fpOk hle (I1.hok.fresh hle)
theorem pi_zip2 {e e2 : Expr} (hg : Gl X "zip") (hm : X.mg "zip" = none) (ha : PA X [e, e2] ta)
    (hs : starEach [e, e2] X.env = (false, eval e X.env) :: starEach [e2] X.env := by rfl) (hpl : (backTo pos (starEach [e2] X.env)).any (·.1) = false := by rfl) :
    PI X (.Tuple elts kk tpos) (.Call (.Name "zip" p) [e, e2] [] pos) (iZipN X.K 2 ta) := by
  refine ⟨fun pins s σ H R I h => ?_⟩
  refine Call_ (ld_blt I hg hm PyProof.Rows.boot_zip (PyProof.Rows.callWith_type1 (thn (ha.run pos pins s σ H _ I h) fun us s1 ⟨vs, H1, I1, r1, q1⟩ => ?_) hs hpl))
  obtain ⟨as, hl, ev, hq, q⟩ := q1
  match as, hl with
  | [(k1, a), (k2, b)], _ =>
    subst ev
    cases r1 with
    | cons r rr =>
      cases rr with
      | cons r' rr =>
        cases rr
        cases r
        cases r'
        obtain ⟨xs, h1⟩ := hq (k1, a) (by simp)
        obtain ⟨ys, h2⟩ := hq (k2, b) (by simp)
        obtain ⟨its, _, p1⟩ := Inv.seq I1 h1
        obtain ⟨its2, _, p2⟩ := Inv.seq I1 h2
        refine call_zip2 p1 p2 (zip_pie I1 (by simp) (show 2 ≤ 8 by decide) (fun c hc => ?_) q)
        rcases List.mem_cons.mp hc with e | hc
        · rw [e]; exact Sq.lt p1
        · rw [List.mem_singleton.mp hc]; exact Sq.lt p2
theorem pi_zip3 {e e2 e3 : Expr} (hg : Gl X "zip") (hm : X.mg "zip" = none) (ha : PA X [e, e2, e3] ta)
    (hs : starEach [e, e2, e3] X.env = (false, eval e X.env) :: starEach [e2, e3] X.env := by rfl) (hpl : (backTo pos (starEach [e2, e3] X.env)).any (·.1) = false := by rfl) :
    PI X (.Tuple elts kk tpos) (.Call (.Name "zip" p) [e, e2, e3] [] pos) (iZipN X.K 3 ta) := by
  refine ⟨fun pins s σ H R I h => ?_⟩
  refine Call_ (ld_blt I hg hm PyProof.Rows.boot_zip (PyProof.Rows.callWith_type1 (thn (ha.run pos pins s σ H _ I h) fun us s1 ⟨vs, H1, I1, r1, q1⟩ => ?_) hs hpl))
  obtain ⟨as, hl, ev, hq, q⟩ := q1
  match as, hl with
  | [(k1, a), (k2, b), (k3, c)], _ =>
    subst ev
    cases r1 with
    | cons r rr =>
      cases rr with
      | cons r' rr =>
        cases rr with
        | cons r'' rr =>
          cases rr
          cases r
          cases r'
          cases r''
          obtain ⟨xs, h1⟩ := hq (k1, a) (by simp)
          obtain ⟨ys, h2⟩ := hq (k2, b) (by simp)
          obtain ⟨zs, h3⟩ := hq (k3, c) (by simp)
          obtain ⟨its, _, p1⟩ := Inv.seq I1 h1
          obtain ⟨its2, _, p2⟩ := Inv.seq I1 h2
          obtain ⟨its3, _, p3⟩ := Inv.seq I1 h3
          refine call_zip3 p1 p2 p3 (zip_pie I1 (by simp) (show 3 ≤ 8 by decide) (fun d hd => ?_) q)
          rcases List.mem_cons.mp hd with e | hd
          · rw [e]; exact Sq.lt p1
          rcases List.mem_cons.mp hd with e | hd
          · rw [e]; exact Sq.lt p2
          · rw [List.mem_singleton.mp hd]; exact Sq.lt p3
end
/-- it goes while all have one, and stops where one has none -/
theorem walk_zipN {K : PySem.W.Frag} {as : List (Kd × Addr)} {n : Nat} {xss : List (List V)} (hn : (∀ (j : Nat) (c : Kd × Addr), as[j]? = some c → ∃ xs : List V, xss[j]? = some xs ∧ n ≤ xs.length) ∧ ∃ (j : Nat) (c : Kd × Addr) (xs : List V), as[j]? = some c ∧ xss[j]? = some xs ∧ xs.length ≤ n) :
    Walk (ItN K as) n (fun H => ∀ (j : Nat) (c : Kd × Addr) (xs : List V), as[j]? = some c → xss[j]? = some xs → c.1.Sv K H c.2 xs)
      (fun i H v H' => ∃ (T : Addr) (vs : List V), v = .ref T ∧ H T = none ∧ H' = upd H T (.tup vs) ∧ vs.length = as.length ∧ ∀ (m : Nat) (xs : List V), m < as.length → xss[m]? = some xs → vs[m]? = xs[i]?) := by
  refine ⟨fun i H hi g c hc => ?_, fun H g => ⟨fun c hc => ?_, ?_⟩, fun i H v H' hi g y => ?_⟩
  · obtain ⟨j, hj⟩ := List.mem_iff_getElem?.mp hc
    obtain ⟨xs, h1, h2⟩ := hn.1 j c hj
    exact ⟨xs, _, g j c xs hj h1, List.getElem?_eq_getElem (Nat.lt_of_lt_of_le hi h2)⟩
  · obtain ⟨j, hj⟩ := List.mem_iff_getElem?.mp hc
    obtain ⟨xs, h1, h2⟩ := hn.1 j c hj
    exact ⟨xs, g j c xs hj h1⟩
  · obtain ⟨j, c, xs, h1, h2, h3⟩ := hn.2
    exact ⟨c, List.mem_of_getElem? h1, xs, g j c xs h1 h2, h3⟩
  · obtain ⟨T, vs, h1, h2, h3, h4, h5⟩ := y
    refine ⟨T, vs, h1, h2, h3, h4, fun m xs hm hx => ?_⟩
    have e : as[m]? = some as[m] := List.getElem?_eq_getElem hm
    exact h5 m _ xs e (g m _ xs e hx)
end Zn

set_option Elab.async false
set_option linter.all false
set_option autoImplicit false
set_option maxRecDepth 100000
set_option maxHeartbeats 4000000
/-! Exceptions that are caught and kept in a name of their own. -/
namespace Lw
open PySem PySem.Spec PyProof.Rows L2
section
variable {X : Cx} {pins : List (Addr × Obj)} {σ : L2.St} {H : Hp} {s : Shared}
/-- a caught exception, known by its object -/
theorem inv_keepX {a : Addr} {oe : Obj} (I : Inv X pins σ H s) (he : s.heap.get? a = some oe) (na : H a = none) (ns0 : X.s_0.heap.get? a = none) (nL : a ≠ X.env.locals) (nC : ∀ x c, X.env.cells.lookup x = some c → c ≠ a) (nP : ∀ p ∈ X.pn ++ pins, p.1 ≠ a) :
    Inv X pins σ (upd H a (.frz oe (.own a))) s := by
  have ne : ∀ {b : Addr} {o : HO}, H b = some o → b ≠ a := fun h z => by rw [z, na] at h; cases h
  refine ⟨I.ok, I.os, I.bare, ⟨I.base.keep, I.base.slot, fun b o e n hx => ?_, I.base.there, fun b xs h => ?_, fun b o u h => ?_, fun b ps h => ?_⟩, I.loc, I.cell, (upd_ne (fun z => nL z.symm)).trans I.free, fun x c e => (upd_ne (nC x c e)).trans (I.freeC x c e), fun p hp => ?_, fun b o e => ?_, I.len⟩
  · exact (upd_ne (fun z => by rw [z, ns0] at e; cases e)).trans (I.base.free b o e n hx)
  · have := I.base.tups b xs h
    exact (upd_ne (ne this)).trans this
  · have := I.base.frzs b o u h
    exact (upd_ne (ne this)).trans this
  · obtain ⟨more, this⟩ := I.base.tbls b ps h
    exact ⟨more, (upd_ne (ne this)).trans this⟩
  · obtain ⟨h1, h2, h3⟩ := I.pin p hp
    exact ⟨h1, (upd_ne (nP p hp)).trans h2, h3⟩
  · by_cases z : b = a
    · subst z
      rw [upd_same] at e
      cases e
      exact ⟨he, oe, he⟩
    · rw [upd_ne z] at e
      refine (I.hok b o e).stay (fun c w' _ q => q) (fun c q => ?_) fun c xs q => ?_
      · exact (upd_ne (ne q)).trans q
      · exact (upd_ne (ne q)).trans q
end
end Lw

set_option Elab.async false
set_option linter.all false
set_option autoImplicit false
set_option maxRecDepth 100000
set_option maxHeartbeats 4000000
namespace Lw
open PySem PySem.Spec PyProof.Rows L2
/-- what 'except x as n' wishes, where the error's object is known behind the clause, too -/
def wKeep (K : PySem.W.Frag) (c : Value) (i : Nat) (ts : Addr → Value → Option Addr → TS) (Wout : WX) (D : Ends) : WX := fun cls d σ H =>
  ∃ b, PySem.W.exmOne K cls c = some b ∧
    (b = true → ∀ (a : Addr) (oe : Obj), H a = none → Zc cls d oe → (∃ vs, oe.data = .fields vs) →
      ts a cls d ⟨fun τ G => G a = none → D.nx (τ.set i none) (upd G a (.frz oe (.own a))), fun _ _ => False, fun _ _ => False, fun _ _ => False⟩ (σ.set i (some (.ref a))) H) ∧
    (b = false → Wout cls d σ H)
section
variable {X : Cx} {x n : Str} {c : Value} {i : Nat} {body suite : List Stmt} {b₀ : Stmt} {np pos pos' : Pos} {tb : WX → TS} {ts : Addr → Value → Option Addr → TS} {Wout : WX} {pins : List (Addr × Obj)}
/-- the clause takes it: its suite, and the name is gone -/
theorem keep_suite {a : Addr} {B : Heap} {cls : Value} {d : Option Addr} {σ : L2.St} {H : Hp} {D : Ends} {sI t : Shared} {xe : Value → Shared → Prop} (hN : X.N.Nodup) (hi : X.N[i]? = some n) (hln : X.env.kindOf n = some .local)
    (hsu : ∀ (oe : Obj) (pn : List (Addr × Obj)), Zc cls d oe → (∃ vs, oe.data = .fields vs) → PSs (X.suite a ((a, oe) :: pn)) (b₀ :: suite) (ts a cls d))
    (I : Inv X pins σ H sI) (nb : ∀ b o, sI.heap.get? b = some o → b ∉ frs X.stack → B.get? b = some o) (na : H a = none) (nL : a ≠ X.env.locals) (nF : a ∉ X.fs) (nI : sI.heap.get? a = none) (hex : X.ex = [])
    (up : sI.heap.UpToSlots t.heap) (os : t.os = sI.os) (ag : AllBare t.gens) (fl : HandSPX.FlyingZ B (X.env :: X.outer) a (Zc cls d) t.heap)
    (go : ∀ oe : Obj, Zc cls d oe → (∃ vs, oe.data = .fields vs) → ts a cls d ⟨fun τ G => G a = none → D.nx (τ.set i none) (upd G a (.frz oe (.own a))), fun _ _ => False, fun _ _ => False, fun _ _ => False⟩ (σ.set i (some (.ref a))) H) :
    wpAny (model X.prog X.w) (X.A.mark (some (.ref a))) (setFlight (.ref a) none) (fun _ t1 => wpAny (model X.prog X.w) (X.A.mark (some (.ref a))) (storeName X.env n (.ref a))
      (fun _ t2 => wpAny (model X.prog X.w) (X.A.mark (some (.ref a))) (execs (b₀ :: suite) X.env)
        (fun f t3 => wpAny (model X.prog X.w) X.A (do bindName X.env n .none; unbindBehindTheSuite X.env n pos') (fun _ t4 => SP X pins D f t4) X.xe t3) (fun _ _ => False) t2) xe t1) xe t := by
  have there : ∀ b o, sI.heap.get? b = some o → b ≠ a := fun b o h z => by rw [z, nI] at h; cases h
  have h0 : X.s_0.heap.get? a = none := by
    cases e : X.s_0.heap.get? a with
    | none => rfl
    | some o =>
      obtain ⟨o', e'⟩ := I.base.there a o e (by rw [hex]; exact List.not_mem_nil)
      rw [nI] at e'
      cases e'
  have hC : ∀ y k, X.env.cells.lookup y = some k → k ≠ a := fun y k e => by
    obtain ⟨v, hv⟩ := I.cell y k e
    obtain ⟨o, ho, _⟩ := hv
    exact there _ _ ho
  have hP : ∀ p ∈ X.pn ++ pins, p.1 ≠ a := fun p hp => there _ _ (I.pin p hp).1
  apply HandSPX.lands_againZ fl
  intro h4 fl4 up4
  have J := I.landed nb fl4.1 (up.trans up4) (s' := { t with heap := h4 }) os ag
  obtain ⟨oe, vs, ho, hz, hd⟩ := fl4.there
  have S := J.suite ho hd na nL nF
  apply store_ok S hN hi (.inl hln) (v := .ref a) rfl ?_ (.inr hln)
  intro t5 S5
  refine wpAny_mono ((hsu oe (X.pn ++ pins) hz ⟨vs, hd⟩).run [] t5 _ H _ S5 (go oe hz ⟨vs, hd⟩)) (fun f t6 e6 => ?_) fun _ _ z => z.elim
  cases f with
  | brk => obtain ⟨_, _, _, z⟩ := e6; exact z.elim
  | cont => obtain ⟨_, _, _, z⟩ := e6; exact z.elim
  | ret u => obtain ⟨_, _, _, _, _, z⟩ := e6; exact z.elim
  | next =>
    obtain ⟨τ, G, S6, q⟩ := e6
    obtain ⟨p1, p2, _⟩ := S6.pin (a, oe) (List.mem_append_left _ List.mem_cons_self)
    have K6 := inv_keepX (S6.unsuite I.ok) p1 p2 h0 nL hC hP
    exact gone_ok K6 hN hi hln fun t7 J7 => ⟨_, _, J7, q p2⟩
end
end Lw

set_option Elab.async false
set_option linter.all false
set_option autoImplicit false
set_option maxRecDepth 100000
set_option maxHeartbeats 4000000
namespace Lw
open PySem PySem.Spec PyProof.Rows L2
section
variable {X : Cx} {x n : Str} {c : Value} {i : Nat} {body suite : List Stmt} {b₀ : Stmt} {np pos pos' : Pos} {tb : WX → TS} {ts : Addr → Value → Option Addr → TS} {Wout : WX}
/-- try: body / except x as n: suite, the error's object being known behind it -/
theorem ps_try_keep (hs : X.stack = X.env :: X.outer) (hf : X.env.frame = some X.env.locals) (hex : X.ex = []) (hN : X.N.Nodup) (hi : X.N[i]? = some n) (hln : X.env.kindOf n = some .local) (hc : Names X x c) (tk : Takes X Wout)
    (hb : ∀ (W : WX) (pn : List (Addr × Obj)) (xe : Value → Shared → Prop), Takes (X.tr pn xe) W → PassesOwn (model X.prog X.w) X.A X.env xe → PSs (X.tr pn xe) body (tb W))
    (hsu : ∀ (a : Addr) (oe : Obj) (cls : Value) (d : Option Addr) (pn : List (Addr × Obj)), Zc cls d oe → (∃ vs, oe.data = .fields vs) → PSs (X.suite a ((a, oe) :: pn)) (b₀ :: suite) (ts a cls d)) :
    PS X (.Try body [.ExceptHandler (some (.Name x np)) (some n) (b₀ :: suite) pos'] [] [] pos) (fun D σ H => tb (wKeep X.K c i ts Wout D) D σ H) := by
  constructor
  intro pins s σ H D I pre
  have ok := I.ok
  have frames : X.A.frames = some (X.env :: X.outer) := by
    have := ok.frames
    rwa [hs] at this
  apply wpAny_Try_except
  refine wpAny_mono ((hb (wKeep X.K c i ts Wout D) (X.pn ++ pins) _ ?_ PassesOwn.looking).run [] s σ H D (I.toTry _) pre) (fun f t e => ?_) fun _ _ z => z
  · intro u t xx
    obtain ⟨a, B, sI, pins2, τ, G, cls, d, eu, J2, nb, up, sky, na, os, ag, b, hb1, yes, no⟩ := xx
    subst eu
    have J : Inv X pins τ G sI := J2.ofTry ok
    rw [show (X.tr (X.pn ++ pins) _).stack = X.env :: X.outer from hs] at sky
    have nb' : ∀ (b : Addr) (o : Obj), sI.heap.get? b = some o → b ∉ frs X.stack → B.get? b = some o := nb
    have bN : B.get? a = none := by
      rcases sky with z | z | z
      · exact z.2.1
      · exact z.2.1
      · exact z.2.1
    refine Sky.land Zc.steady frames hf sky fun h3 fl3 up3 => ?_
    obtain ⟨o3, vs3, he3, hz3, hd3⟩ := fl3.there
    have off : a ∉ frs (X.env :: X.outer) := fun m => by
      obtain ⟨_, o, eo, nf⟩ := fl3.2.2.1.mem m
      rw [he3] at eo
      cases eo
      exact nf _ hd3
    have nL : a ≠ X.env.locals := fun z => off (List.mem_filterMap.mpr ⟨X.env, List.mem_cons_self, by rw [hf, z]⟩)
    have nF : a ∉ X.fs := fun m => by
      obtain ⟨e, he, q⟩ := List.mem_filterMap.mp m
      exact off (List.mem_filterMap.mpr ⟨e, List.mem_cons_of_mem _ he, q⟩)
    have nI : sI.heap.get? a = none := by
      cases e : sI.heap.get? a with
      | none => rfl
      | some o =>
        have := nb' a o e (by rw [hs]; exact off)
        rw [bN] at this
        cases this
    have J3 : Inv X pins τ G { t with heap := h3 } := J.landed nb' fl3.1 (up.trans up3) os ag
    have S3 := J3.suite he3 hd3 na nL nF
    apply wpAny_handleBy_cons (codeAny_handlers_test ?_) (by intro q; cases q)
    have ty : PySem.W.Looks (model X.prog X.w) h3 (typeOf (.ref a)) cls := fun A Q E s k q => wpAny_typeOf_ref (k _ _ he3) (by rw [hz3.1]; exact q)
    have fits := PySem.W.exm_one (M := model X.prog X.w) J3.kIn ty hb1
    have told : ∀ {Q E : Value → Shared → Prop}, Q c { t with heap := h3 } → wpAny (model X.prog X.w) (X.A.mark (some (.ref a))) (eval (.Name x np) X.env) Q E { t with heap := h3 } := fun {Q E} q => by
      obtain ⟨hg, hdbg, h⟩ := hc
      rcases h with hm | ⟨hm, hv, hnn⟩
      · exact ld_glob (X := X.suite a ((a, o3) :: (X.pn ++ pins))) S3 hg hm q hdbg
      · exact ld_blt (X := X.suite a ((a, o3) :: (X.pn ++ pins))) S3 hg hm hv q hnn hdbg
    apply told
    apply fits.here
    cases b with
    | true =>
      apply codeAny_handlers_suite_as
      refine wpAny_mono (keep_suite (pos' := pos') (D := D) hN hi hln (fun oe pn => hsu a oe cls d pn) J nb' na nL nF nI hex (t := { t with heap := h3 }) (up.trans up3) os ag fl3 (fun oe z1 z2 => yes rfl a oe na z1 z2)) (fun _ _ q => wpAny_mono q (fun _ _ q => wpAny_mono q (fun _ _ q => q) fun _ _ z => z.elim) fun _ _ z => z) fun _ _ z => z
    | false =>
      apply wpAny_handleBy_nil
      obtain ⟨_, _, _, o4, vs4, T4, oT4, us4, g1, g2, g3, g4, g5⟩ := id fl3
      unfold PySem.passOn
      apply wpAny_bind
      apply wpAny_field g1 g3 g4
      rw [if_neg (show ¬ ((Value.ref T4 == Value.none) = true) by simp)]
      have thrown : wpAny (model X.prog X.w) X.A (setFlight (.ref a) X.env.frame) (fun _ t4 => wpAny (model X.prog X.w) X.A (throw (.ref a) : Sem Flow) (SP X pins D) X.xe t4) X.xe { t with heap := h3 } := by
        rw [hf]
        exact HandSPX.setFlight_upZ fl3 fun h4 held up4 => wpAny_throw (tk _ _ ⟨a, B, sI, pins, τ, G, cls, d, rfl, J, nb', (up.trans up3).trans up4, .inr (.inr (by rw [hs]; exact held)), na, os, ag, no rfl⟩)
      exact wpAny_bind thrown
  · cases f with
    | next =>
      obtain ⟨τ, G, J, q⟩ := e
      exact wpAny_execs_nil ⟨τ, G, J.ofTry ok, q⟩
    | brk =>
      obtain ⟨τ, G, J, q⟩ := e
      exact ⟨τ, G, J.ofTry ok, q⟩
    | cont =>
      obtain ⟨τ, G, J, q⟩ := e
      exact ⟨τ, G, J.ofTry ok, q⟩
    | ret u =>
      obtain ⟨v, τ, G, J, r, q⟩ := e
      exact ⟨v, τ, G, J.ofTry ok, r, q⟩
end
end Lw

set_option Elab.async false
set_option linter.all false
set_option autoImplicit false
set_option maxRecDepth 100000
set_option maxHeartbeats 4000000
/-! A kept error: its class asked, its fields read. -/
namespace Lw
open PySem PySem.Spec PyProof.Rows L2
theorem XcAt.inst {P : Program} {w : World} {H : Hp} {h : Heap} {a C : Addr} {fs : List (Str × V)} (k : HOk P w H h) (x : XcAt H a C fs) : ∃ (oe od : Obj), PySem.W.InstAt h a oe C (some od) ∧ ∃ mA : Str → Option Value, (∀ f, PySem.W.lookIn f od = some (mA f)) ∧ ∀ f, RelO (fs.lookup f) (mA f) := by
  obtain ⟨oe, dd, h1, hz, ⟨vs, hv⟩, h2⟩ := x
  obtain ⟨mA, hns, hr⟩ := (show ObjOk P w H h dd (.xd fs) from k dd _ h2)
  obtain ⟨od, ho, hl⟩ := lookIn_ns hns
  have he : h.get? a = some oe := (show ObjOk P w H h a (.frz oe (.own a)) from k a _ h1).1
  refine ⟨oe, od, ⟨he, hz.1, by unfold PySem.W.notCls; rw [hv] <;> rfl, by rw [hz.2]; exact ho⟩, mA, hl, hr⟩
/-- isinstance(e, c), e a kept error -/
def rIsK (K : PySem.W.Frag) : List V → Hp → VK → Prop := fun xs H Q => ∃ (a C : Addr) (fs : List (Str × V)) (c : V) (u : Value) (b : Bool), xs = [.ref a, c] ∧ ClsV c u ∧ XcAt H a C fs ∧ ExcC K C ∧ PySem.W.kitOne K (.ref C) u = some b ∧ Q (.bl b) H
theorem call_isK {X : Cx} : CallR X (.builtin "isinstance") (rIsK X.K) := by
  intro pins s σ H xs us Q I r h
  obtain ⟨a, C, fs, c, u, b, rfl, k, x, T, e, q⟩ := h
  obtain ⟨u1, u2, rfl, r1, r2⟩ := vals2 r
  have e2 := k.eq r2
  subst e2
  cases (show u1 = Value.ref a from r1)
  obtain ⟨oe, od, J, _⟩ := x.inst I.hok
  have hcl : (PySem.W.clsIn X.K C).isSome = true := by
    obtain ⟨cd, hc, _⟩ := PySem.W.any_some T.hd
    rw [hc]
    rfl
  exact PySem.W.kia_one (PySem.W.kitx_exc hcl T.hg T.hk T.hs T.ha T.hn T.ht T.hm) I.kIn J e (fun z => nomatch z) fun tk => ⟨.bl b, H, I.tok tk, rfl, q⟩
/-- e.f of a kept error -/
def tXk (C : Addr) (f : Str) (te : TE) : TE := fun σ H Q => te σ H fun x H1 => ∃ (a : Addr) (fs : List (Str × V)) (v : V), x = .ref a ∧ XcAt H1 a C fs ∧ fs.lookup f = some v ∧ Q v H1
theorem pe_xk {X : Cx} {C : Addr} {e : Expr} {te : TE} {pos : Pos} {n : Str} (T : XfC X.K C) (hno : PySem.W.findIn X.K (.ref C) n = some none) (he : PE X e te) (hb : attributeBase e n X.env (eval e X.env) = eval e X.env := by rfl) :
    PE X (.Attribute e n pos) (tXk C n te) := by
  constructor
  intro pins s σ H Q I h
  apply attr_of hb
  apply thn (he.run pins s σ H _ I h)
  rintro u s1 ⟨x, H1, I1, rx, a, fs, v, ex, hx, l, q⟩
  subst ex
  cases (show u = Value.ref a from rx)
  obtain ⟨oe, od, J, mA, hl, hr⟩ := hx.inst I1.hok
  obtain ⟨w, hw, rw_⟩ := RelO.some_of (v := v) (o := mA n) (by rw [← l]; exact hr n)
  have found := PySem.W.findObj_own T.hdC hno rfl (by rw [hl, hw])
  exact HandSPX.exc_get I1.kIn J T.ga T.gg T.exC found (handed_of rw_) ⟨v, H1, I1.tok _, rw_, q⟩
end Lw

set_option Elab.async false
set_option linter.all false
set_option autoImplicit false
set_option maxRecDepth 100000
set_option maxHeartbeats 4000000
/-! Statements that may raise: a second layer over Xs. -/
namespace Px
open PySem PySem.Spec PyProof.Rows L2 Lw
/-- an error: its class's name, its fields -/
abbrev ExR := Str × List (Str × PyData)
inductive OutX where
  | o (x : Out)
  | ex (r : ExR) (a : AE)
/-- the error in the air -/
def ExOk (K : PySem.W.Frag) (I : Hp) (r : ExR) (cls : Value) (d : Option Addr) : Prop :=
  cls = clsOf K r.1 ∧ ∃ (dd : Addr) (vs : List (Str × V)), d = some dd ∧ I dd = some (.xd vs) ∧ vs.map (·.1) = r.2.map (·.1) ∧ DqAll K I (vs.map (·.2)) (r.2.map (·.2))
def pstO (p0 : Addr) : OutX → Pst
  | .o x => pst p0 x
  | .ex _ _ => ⟨fun _ => False, fun _ _ => False, fun _ _ => False, fun _ => False, fun _ => False⟩
def RunY (K : PySem.W.Frag) (W : WX) (ts : TS) (env : Env) (p0 : Addr) (o : OutX) : Prop :=
  ∀ (F I0 I : Hp) (σ : L2.St) (H : Hp) (D : Ends), EnvI K F I0 I σ H env → AnsX K F I0 D (pstO p0 o) →
    (∀ (r : ExR) (a : AE), o = .ex r a → ∀ (I' : Hp) (σ' : L2.St) (H' : Hp) (e : Env) (cls : Value) (d : Option Addr), EnvI K F I0 I' σ' H' e → Ab p0 e a → ExOk K I' r cls d → W cls d σ' H') → ts D σ H
structure Ys where
  t : Gx → WX → TS
  run : AE → Option OutX
  ok : ∀ g W a o, run a = some o → ∀ p0 e, Ab p0 e a → RunY g.K W (t g W) e p0 o
def Ys.of (x : Xs) : Ys where
  t g _ := x.t g
  run a := (x.run a).bind fun o => some (.o o)
  ok g W a o h p0 e he F I0 I σ H D E A _ := by
    obtain ⟨o1, h1, h⟩ := Option.bind_eq_some_iff.mp h
    cases h
    exact x.ok g a o1 h1 p0 e he F I0 I σ H D E A
def Ys.seq (x y : Ys) : Ys where
  t g W := tSeq (x.t g W) (y.t g W)
  run a := (x.run a).bind fun o => match o with
    | .o (.nx a') => y.run a'
    | o => some o
  ok g W a o h p0 e he F I0 I σ H D E A B := by
    obtain ⟨o1, h1, h⟩ := Option.bind_eq_some_iff.mp h
    refine x.ok g W a o1 h1 p0 e he F I0 I σ H _ E ?_ ?_
    · cases o1 with
      | ex r a1 => exact ⟨fun _ _ _ _ _ z => z.elim, fun _ _ _ _ _ _ _ _ z => z.elim, fun _ _ _ _ _ _ _ _ _ _ _ _ _ _ z => z.elim, fun _ _ _ _ _ z => z.elim, fun _ _ _ _ _ z => z.elim⟩
      | o x1 =>
        refine ⟨?_, ?_, ?_, ?_, ?_⟩
        · rintro I' σ' H' e' E' ⟨a', rfl, ha⟩
          exact y.ok g W a' o h p0 e' ha F I0 I' σ' H' D E' A B
        · rintro v I' σ' H' d e' E' hd ⟨a', rfl, ha⟩
          cases h
          exact A.rt v I' σ' H' d e' E' hd ⟨a', rfl, ha⟩
        · rintro b I' σ' H' xs ds e' E' f1 f2 f3 f4 f5 f6 ⟨a', rfl, ha⟩
          cases h
          exact A.rf b I' σ' H' xs ds e' E' f1 f2 f3 f4 f5 f6 ⟨a', rfl, ha⟩
        · rintro I' σ' H' e' E' ⟨a', rfl, ha⟩
          cases h
          exact A.bk I' σ' H' e' E' ⟨a', rfl, ha⟩
        · rintro I' σ' H' e' E' ⟨a', rfl, ha⟩
          cases h
          exact A.ct I' σ' H' e' E' ⟨a', rfl, ha⟩
    · rintro r a1 rfl
      cases h
      exact B r a1 rfl
def Ys.ifS (c : Xt) (x y : Ys) : Ys where
  t g W := tIfS (c.t g) (x.t g W) (y.t g W)
  run a := (c.ev a).bind fun p => if p.1 = true then x.run p.2 else y.run p.2
  ok g W a o h p0 e he F I0 I σ H D E A B := by
    obtain ⟨⟨d1, a1⟩, h1, h⟩ := Option.bind_eq_some_iff.mp h
    refine c.ok g a _ _ h1 p0 e he F I0 I σ H E _ fun I' H' b e' E' _ ⟨eb, ha⟩ => ?_
    subst eb
    split at h
    · rename_i hb
      rw [if_pos hb]
      exact x.ok g W _ _ h p0 e' ha F I0 I' σ H' D E' A B
    · rename_i hb
      rw [if_neg hb]
      exact y.ok g W _ _ h p0 e' ha F I0 I' σ H' D E' A B
/-- raise z(xs), the class's __init__ setting these fields -/
def tRaiseE (K : PySem.W.Frag) (z : Str) (ns : List Str) (ta : TA) (W : WX) : TS := fun _ σ H => ta σ H fun vs H1 => vs.length = ns.length ∧ ∀ d, H1 d = none → W (clsOf K z) (some d) σ (upd H1 d (.xd (ns.zip vs)))
theorem zip_fst {α β : Type} : ∀ (ns : List α) (vs : List β), vs.length = ns.length → (ns.zip vs).map (·.1) = ns
  | [], _, _ => by simp
  | n :: ns, [], h => by cases h
  | n :: ns, v :: vs, h => by simpa using zip_fst ns vs (by simpa using h)
theorem zip_snd {α β : Type} : ∀ (ns : List α) (vs : List β), vs.length = ns.length → (ns.zip vs).map (·.2) = vs
  | [], [], _ => rfl
  | [], v :: vs, h => by cases h
  | n :: ns, [], h => by cases h
  | n :: ns, v :: vs, h => by simpa using zip_snd ns vs (by simpa using h)
def Ys.raise (z : Str) (ns : List Str) (xs : Xa) : Ys where
  t g W := tRaiseE g.K z ns (xs.t g) W
  run a := (xs.ev a).bind fun p => if p.1.length = ns.length then some (.ex (z, ns.zip p.1) p.2) else none
  ok g W a o h p0 e he F I0 I σ H D E A B := by
    obtain ⟨⟨ds, a1⟩, h1, h⟩ := Option.bind_eq_some_iff.mp h
    dsimp only at h
    split at h
    · rename_i hl
      cases h
      refine xs.ok g a _ _ h1 p0 e he F I0 I σ H E _ fun vs I1 H1 ds' e1 E1 x1 hvs ⟨ed, ha⟩ => ?_
      subst ed
      have hv : vs.length = ns.length := (dpA_len hvs).trans hl
      refine ⟨hv, fun d hd => ?_⟩
      have E2 := E1.newD (o := .xd (ns.zip vs)) hd
      refine B _ _ rfl _ σ _ e1 _ _ E2 ha ⟨rfl, d, _, rfl, upd_same, ?_, ?_⟩
      · rw [zip_fst ns vs hv, zip_fst ns _ hl]
      · rw [zip_snd ns vs hv, zip_snd ns _ hl]
        have hI : I1 d = none := by
          cases e : I1 d with
          | none => rfl
          | some o => rw [E1.ih d o e] at hd; cases hd
        exact dpA_mono (fun b o hb => (upd_ne (fun z => by rw [z, hI] at hb; cases hb)).trans hb) hvs
    · cases h
end Px

set_option Elab.async false
set_option linter.all false
set_option autoImplicit false
set_option maxRecDepth 100000
set_option maxHeartbeats 4000000
/-! Defs that may raise: their promise, their calls. -/
namespace Px
open PySem PySem.Spec PyProof.Rows L2 Lw
inductive RX where
  | ok (r : R1)
  | ex (r : ExR)
abbrev FnX := List PyData → Option RX
def spX (K : PySem.W.Frag) (φ : FnX) : Sp := fun vs H Q E => ∃ (I : Hp) (ds : List PyData), Ex I H ∧ DqAll K I vs ds ∧ (φ ds).isSome = true ∧
  (∀ (v : V) (I' H' : Hp) (r : R1), φ ds = some (.ok r) → Ex I I' → Ex I' H' → Ex H H' → (∀ a, H a ≠ none → I a = none → I' a = none) → ResOut K H I' H' v r → Q v H') ∧
  ∀ (cls : Value) (d : Option Addr) (I' H' : Hp) (r : ExR), φ ds = some (.ex r) → Ex I I' → Ex I' H' → Ex H H' → (∀ a, H a ≠ none → I a = none → I' a = none) → ExOk K I' r cls d → E cls d H'
def outX : OutX → Option RX
  | .o (.rt d _) => some (.ok (.dat d))
  | .o (.nx _) => some (.ok (.dat .none))
  | .o (.rf ds _) => some (.ok (.fr ds))
  | .ex r _ => some (.ex r)
  | _ => none
def fnX (m n : Nat) (b : Ys) : FnX := fun ds => if ds.length = m then (b.run (ent n .no ds)).bind outX else none
section
variable {P : Program} {w : World} {K : PySem.W.Frag} {mg : Str → Option Value} {base : Heap} {N : List Str}
theorem bodyX {G : Gx} {m : Nat} {b : Ys} {vs : List V} {H : Hp} {Q : VK} {E : XK} (hm : m ≤ N.length) (h : spX G.K (fnX m N.length b) vs H Q E) : b.t G (fun cls d _ H => E cls d H) { nx := fun _ H' => Q .non H', rt := Q } (start N vs) H := by
  obtain ⟨I, ds, hI, hvs, hφ, k, kx⟩ := h
  obtain ⟨r0, hφ⟩ := Option.isSome_iff_exists.mp hφ
  have hφ' := hφ
  unfold fnX at hφ
  split at hφ
  case isFalse => cases hφ
  rename_i hn
  obtain ⟨o, ho, hout⟩ := Option.bind_eq_some_iff.mp hφ
  refine b.ok G _ _ o ho 0 _ (ab_tl _ _ ds) H I I _ H _ (env_tl (by omega) (Ex.refl H) hI hvs) ?_ ?_
  · cases o with
    | ex r a1 => exact ⟨fun _ _ _ _ _ z => z.elim, fun _ _ _ _ _ _ _ _ z => z.elim, fun _ _ _ _ _ _ _ _ _ _ _ _ _ _ z => z.elim, fun _ _ _ _ _ z => z.elim, fun _ _ _ _ _ z => z.elim⟩
    | o x1 =>
      refine ⟨?_, ?_, ?_, ?_, ?_⟩
      · rintro I' σ' H' e E' ⟨a, rfl, ha⟩
        cases hout
        exact k _ _ _ _ hφ' E'.oi E'.ih E'.fh E'.fr Dq.non
      · rintro v I' σ' H' d e E' hd ⟨a, rfl, ha⟩
        cases hout
        exact k _ _ _ _ hφ' E'.oi E'.ih E'.fh E'.fr hd
      · rintro D I' σ' H' ys es e E' f1 f2 f3 f4 f5 f6 ⟨a, rfl, ha⟩
        cases hout
        exact k _ _ _ _ hφ' E'.oi E'.ih E'.fh E'.fr ⟨D, ys, rfl, f1, f3, f4, f5⟩
      · rintro I' σ' H' e E' ⟨a, rfl, ha⟩
        cases hout
      · rintro I' σ' H' e E' ⟨a, rfl, ha⟩
        cases hout
  · rintro r a rfl I' σ' H' e cls d E' ha hx
    cases hout
    exact kx _ _ _ _ _ hφ' E'.oi E'.ih E'.fh E'.fr hx
theorem spX_len {m n : Nat} {b : Ys} {vs : List V} {H : Hp} {Q : VK} {E : XK} (h : spX K (fnX m n b) vs H Q E) : vs.length = m := by
  obtain ⟨I, ds, hI, hvs, hφ, _⟩ := h
  obtain ⟨r, hφ⟩ := Option.isSome_iff_exists.mp hφ
  unfold fnX at hφ
  split at hφ
  · rename_i hn
    exact (dpA_len hvs).trans hn
  · cases hφ
/-- it keeps a promise, and may raise -/
structure CalX (P : Program) (w : World) (K : PySem.W.Frag) (mg : Str → Option Value) (base : Heap) (k : Nat) (x : Str) (sp : Sp) : Prop where
  ex : ∃ (f : Addr) (fd : FuncData) (ps : List Str), FnOk P w K mg base (L2.CX P w) k f fd ps sp ∧ mg x = some (.ref f) ∧ PySem.W.keepIn K (.ref f) = true ∧ Binds K fd ps []
theorem DefAt.calX {x : Str} {st : Stmt} {ps : List Str} {k : Nat} {b : Ys} {G : Gx} (hG : G.K = K) (D : DefAt K mg x st ps) (S : FnScope N ps (defScope st)) (hm : ps.length ≤ N.length)
    (hbody : ∀ (f : Addr) (cdv : Value) (A : Around) (outer : List PySem.Env) (s : Shared) (H : Hp) (E : XK), Room k (A.deeper (envOfC x (defScope st) s.heap.objs.size f cdv)) →
      Takes (cxOf (L2.CX P w) P w K mg base N x (defScope st) f cdv A outer s H E) (fun cls d _ H => E cls d H) →
      PSs (cxOf (L2.CX P w) P w K mg base N x (defScope st) f cdv A outer s H E) (defBody st) (b.t G fun cls d _ H => E cls d H)) : CalX P w K mg base (k + 1) x (spX K (fnX ps.length N.length b)) := by
  subst hG
  obtain ⟨f, fd, F, hm', hb⟩ := D.ex
  exact ⟨f, fd, ps, F.okX S (fun vs H Q E h => spX_len h) (fun cdv A outer s H vs Q E hr h => ⟨_, hbody f cdv A outer s H E hr (takes_of rfl rfl rfl rfl), bodyX hm h⟩), hm', F.kp, hb⟩
/-- its call, where what it raises is taken -/
theorem pe_dX {X : Cx} {k j : Nat} {x : Str} {sp : Sp} {W : WX} {e : Expr} {es : List Expr} {ta : TA} {p pos : Pos} (c : CalX X.prog X.w X.K X.mg X.base k x sp) (hr : Room j X.A) (hk : k ≤ j) (tk : Takes X W) (hg : Gl X x) (ha : PA X (e :: es) ta)
    (hdb : (x == ("__debug__" : Str)) = false := by decide) (he : starEach (e :: es) X.env = (false, eval e X.env) :: starEach es X.env := by rfl) (hpl : (backTo pos (starEach es X.env)).any (·.1) = false := by rfl) :
    PE X (.Call (.Name x p) (e :: es) [] pos) (tCallS sp (WE W) ta) := by
  obtain ⟨f, fd, ps, F, hm, kp, b⟩ := c.ex
  exact pe_callS F (hr.mono hk) hg hm kp b (fun σ => passAt tk σ) ha hdb he hpl
end
/-! the calls, as statements -/
/-- f(xs), what it tells forgotten -/
def Ys.dropC (φ : FnX) (xs : Xa) : Ys where
  t g W := tDrop (tCallS (spX g.K φ) (WE W) (xs.t g))
  run a := (xs.ev a).bind fun p => match φ p.1 with
    | some (.ok _) => some (.o (.nx p.2))
    | some (.ex r) => some (.ex r p.2)
    | none => none
  ok g W a o h p0 e he F I0 I σ H D E A B := by
    obtain ⟨⟨ds, a1⟩, h1, h⟩ := Option.bind_eq_some_iff.mp h
    refine xs.ok g a _ _ h1 p0 e he F I0 I σ H E _ fun vs I1 H1 ds' e1 E1 x1 hvs ⟨ed, ha⟩ => ?_
    subst ed
    dsimp only at h
    refine ⟨I1, _, E1.ih, hvs, ?_, fun v I2 H2 r hr a1 a2 a3 a4 _ => ?_, fun cls d I2 H2 r hr a1 a2 a3 a4 hx => ?_⟩
    · cases hφ : φ ds' with
      | none => rw [hφ] at h; cases h
      | some r => rfl
    · rw [hr] at h
      cases h
      exact A.nx I2 σ H2 e1 (E1.called a1 a2 a3 a4) ⟨_, rfl, ha⟩
    · rw [hr] at h
      cases h
      exact B _ _ rfl I2 σ H2 e1 cls d (E1.called a1 a2 a3 a4) ha hx
/-- x = f(xs) -/
def Ys.setC (i : Nat) (φ : FnX) (xs : Xa) : Ys where
  t g W := tAsg (tCallS (spX g.K φ) (WE W) (xs.t g)) (gName i)
  run a := (xs.ev a).bind fun p => match φ p.1 with
    | some (.ok (.dat d)) => some (.o (.nx (st p.2 i (some (.dat d)))))
    | some (.ex r) => some (.ex r p.2)
    | _ => none
  ok g W a o h p0 e he F I0 I σ H D E A B := by
    obtain ⟨⟨ds, a1⟩, h1, h⟩ := Option.bind_eq_some_iff.mp h
    refine xs.ok g a _ _ h1 p0 e he F I0 I σ H E _ fun vs I1 H1 ds' e1 E1 x1 hvs ⟨ed, ha⟩ => ?_
    subst ed
    dsimp only at h
    refine ⟨I1, _, E1.ih, hvs, ?_, fun v I2 H2 r hr a1 a2 a3 a4 hres => ?_, fun cls d I2 H2 r hr a1 a2 a3 a4 hx => ?_⟩
    · cases hφ : φ ds' with
      | none => rw [hφ] at h; cases h
      | some r => rfl
    · rw [hr] at h
      cases r with
      | fr _ => cases h
      | dat d =>
        cases h
        exact A.nx I2 _ H2 _ ((E1.called a1 a2 a3 a4).setD i hres) ⟨_, rfl, ha.set i (.dat _)⟩
    · rw [hr] at h
      cases h
      exact B _ _ rfl I2 σ H2 e1 cls d (E1.called a1 a2 a3 a4) ha hx
/-- return f(xs), data -/
def Ys.retC (φ : FnX) (xs : Xa) : Ys where
  t g W := tRet (tCallS (spX g.K φ) (WE W) (xs.t g))
  run a := (xs.ev a).bind fun p => match φ p.1 with
    | some (.ok (.dat d)) => some (.o (.rt d p.2))
    | some (.ex r) => some (.ex r p.2)
    | _ => none
  ok g W a o h p0 e he F I0 I σ H D E A B := by
    obtain ⟨⟨ds, a1⟩, h1, h⟩ := Option.bind_eq_some_iff.mp h
    refine xs.ok g a _ _ h1 p0 e he F I0 I σ H E _ fun vs I1 H1 ds' e1 E1 x1 hvs ⟨ed, ha⟩ => ?_
    subst ed
    dsimp only at h
    refine ⟨I1, _, E1.ih, hvs, ?_, fun v I2 H2 r hr a1 a2 a3 a4 hres => ?_, fun cls d I2 H2 r hr a1 a2 a3 a4 hx => ?_⟩
    · cases hφ : φ ds' with
      | none => rw [hφ] at h; cases h
      | some r => rfl
    · rw [hr] at h
      cases r with
      | fr _ => cases h
      | dat d =>
        cases h
        exact A.rt v I2 σ H2 d e1 (E1.called a1 a2 a3 a4) hres ⟨_, rfl, ha⟩
    · rw [hr] at h
      cases h
      exact B _ _ rfl I2 σ H2 e1 cls d (E1.called a1 a2 a3 a4) ha hx
end Px

set_option Elab.async false
set_option linter.all false
set_option autoImplicit false
set_option maxRecDepth 100000
set_option maxHeartbeats 4000000
/-! try .. except z as n: kept = n. -/
namespace Px
open PySem PySem.Spec PyProof.Rows L2 Lw
/-- a slot gets what is no cell -/
theorem EnvI.setF_ {K : PySem.W.Frag} {F I0 I H : Hp} {σ : L2.St} {env : Env} (E : EnvI K F I0 I σ H env) {v : V} {x : Lw.Val} (k : Nat) (hx : isCell x = false) (hv : VOk K F I H v x) : EnvI K F I0 I (σ.set k (some v)) H (env.set k (some x)) := by
  have at_ : ∀ (i : Nat) (y : Lw.Val), (env.set k (some x))[i]? = some (some y) → (i = k ∧ y = x ∧ k < env.length) ∨ (k ≠ i ∧ env[i]? = some (some y)) := fun i y h => by
    by_cases z : k = i
    · subst z
      have hk : k < env.length := by
        have := (List.getElem?_eq_some_iff.mp h).1
        simpa using this
      rw [List.getElem?_set_self hk] at h
      cases h
      exact .inl ⟨rfl, rfl, hk⟩
    · rw [List.getElem?_set_ne z] at h
      exact .inr ⟨z, h⟩
  refine ⟨E.fh, E.oi, E.ih, E.fr, by rw [List.length_set, List.length_set, E.len], fun i y h => ?_, fun i j y z hij hi hj cy cz => ?_⟩
  · rcases at_ i y h with ⟨rfl, rfl, hk⟩ | ⟨z, h'⟩
    · exact ⟨v, List.getElem?_set_self (by rw [← E.len]; exact hk), hv⟩
    · obtain ⟨w, h1, h2⟩ := E.at_ i y h'
      exact ⟨w, by rw [List.getElem?_set_ne z]; exact h1, h2⟩
  · rcases at_ i y hi with ⟨rfl, rfl, _⟩ | ⟨z1, hi'⟩
    · rw [hx] at cy; cases cy
    · rcases at_ j z hj with ⟨rfl, rfl, _⟩ | ⟨z2, hj'⟩
      · rw [hx] at cz; cases cz
      · rw [List.getElem?_set_ne z1, List.getElem?_set_ne z2]
        exact E.ne i j y z hij hi' hj' cy cz
/-- the clause's term: slot k gets what slot i holds -/
def tKeep (i k : Nat) : TS := tAsg (tVar i) (gName k)
def tTryK (K : PySem.W.Frag) (z : Str) (i k : Nat) (tb : WX → TS) : TS := fun D σ H => tb (wKeep K (clsOf K z) i (fun _ _ _ => tKeep i k) (fun _ _ _ _ => False) D) D σ H
/-- which classes the clause takes, as the written part has it -/
def Caught (K : PySem.W.Frag) (z : Str) (zs : List Str) : Prop := ∀ y ∈ zs, (∃ C : Addr, clsOf K y = .ref C) ∧ PySem.W.exmOne K (clsOf K y) (clsOf K z) = some true
/-- the error is kept in slot k; slot i is the clause's name -/
def tryRun (zs : List Str) (i k : Nat) (b : Ys) (a : AE) : Option Out := (b.run a).bind fun o => match o with
  | .o x => some x
  | .ex r a' => if r.1 ∈ zs ∧ i ≠ k ∧ i < a'.length then some (.nx (st (st a' k (some (.exc r.1 r.2))) i none)) else none
theorem tryOk {g : Gx} {z : Str} {zs : List Str} {i k : Nat} {b : Ys} (hc : Caught g.K z zs) {a : AE} {o : Out} (h : tryRun zs i k b a = some o) (p0 : Addr) (e : Env) (he : Ab p0 e a) : RunX g.K (tTryK g.K z i k (b.t g)) e (pst p0 o) := by
  intro F I0 I σ H D E A
  obtain ⟨o1, h1, h⟩ := Option.bind_eq_some_iff.mp h
  refine b.ok g _ a o1 h1 p0 e he F I0 I σ H D E ?_ ?_
  · cases o1 with
    | o x => cases h; exact A
    | ex r a1 => exact ⟨fun _ _ _ _ _ q => q.elim, fun _ _ _ _ _ _ _ _ q => q.elim, fun _ _ _ _ _ _ _ _ _ _ _ _ _ _ q => q.elim, fun _ _ _ _ _ q => q.elim, fun _ _ _ _ _ q => q.elim⟩
  · rintro r a1 rfl I' σ' H' e' cls d E' ha ⟨rfl, dd, vs, rfl, hI, hn, hd⟩
    dsimp only at h
    split at h
    · rename_i hz
      cases h
      obtain ⟨⟨C, hC⟩, hx⟩ := hc _ hz.1
      refine ⟨true, hx, fun _ x oe hx0 hzc hf => ?_, fun q => nomatch q⟩
      have hl : i < σ'.length := by
        have h1 := hz.2.2
        have h2 := ha.len
        have h3 := E'.len
        omega
      refine ⟨.ref x, List.getElem?_set_self hl, fun hxn => ?_⟩
      have E2 := E'.newD (o := .frz oe (.own x)) hx0
      have hI0 : I' x = none := by
        cases q : I' x with
        | none => rfl
        | some o => rw [E'.ih x o q] at hx0; cases hx0
      have eI : Ex I' (upd I' x (.frz oe (.own x))) := fun b o hb => (upd_ne (fun q => by rw [q, hI0] at hb; cases hb)).trans hb
      have hv : VOk g.K F (upd I' x (.frz oe (.own x))) (upd H' x (.frz oe (.own x))) (.ref x) (.exc r.1 r.2) :=
        ⟨x, C, vs, rfl, hC, ⟨oe, dd, upd_same, by rw [hC] at hzc; exact hzc, hf, eI _ _ hI⟩, hn, dpA_mono eI hd⟩
      have E3 := EnvI.setF_ E2 k rfl hv
      have E4 := E3.wiped [i]
      have es : ((σ'.set i (some (V.ref x))).set k (some (.ref x))).set i none = (σ'.set k (some (.ref x))).set i none := by
        rw [List.set_comm _ _ hz.2.1, List.set_set]
      rw [es]
      exact A.nx _ _ _ _ E4 ⟨_, rfl, (ha.set k (.exc _ _)).none i _⟩
    · cases h
end Px

set_option Elab.async false
set_option linter.all false
set_option autoImplicit false
set_option maxRecDepth 100000
set_option maxHeartbeats 4000000
/-! try as a statement; a kept error asked. -/
namespace Px
open PySem PySem.Spec PyProof.Rows L2 Lw
def Xs.tryK (z : Str) (zs : List Str) (i k : Nat) (b : Ys) : Xs where
  t g := fun D σ H => Caught g.K z zs → tTryK g.K z i k (b.t g) D σ H
  run a := tryRun zs i k b a
  ok g a o h p0 e he F I0 I σ H D E A := fun hc => tryOk hc h p0 e he F I0 I σ H D E A
theorem ps_tryK {X : Cx} {G : Gx} {z n : Str} {zs : List Str} {i k : Nat} {b : Ys} {body : List Stmt} {s0 : Stmt} {np pos pos' : Pos} {C : Addr} (hG : G.K = X.K) (hs : X.stack = X.env :: X.outer) (hf : X.env.frame = some X.env.locals) (hex : X.ex = []) (hN : X.N.Nodup) (hi : X.N[i]? = some n) (hln : X.env.kindOf n = some .local)
    (hc : Names X z (.ref C)) (hz : clsOf X.K z = .ref C) (hca : Caught X.K z zs)
    (hb : ∀ (W : WX) (pn : List (Addr × Obj)) (xe : Value → Shared → Prop), Takes (X.tr pn xe) W → PSs (X.tr pn xe) body (b.t G W))
    (hsu : ∀ (a : Addr) (oe : Obj) (pn : List (Addr × Obj)), PS (X.suite a ((a, oe) :: pn)) s0 (tKeep i k)) :
    PS X (.Try body [.ExceptHandler (some (.Name z np)) (some n) [s0] pos'] [] [] pos) ((Xs.tryK z zs i k b).t G) := by
  have h := ps_try_keep (X := X) (suite := []) (pos := pos) (pos' := pos') (np := np) (Wout := fun _ _ _ _ => False) hs hf hex hN hi hln hc takes0 (fun W pn xe tk _ => hb W pn xe tk) (fun a oe cls d pn _ _ => pss_one (hsu a oe pn))
  constructor
  intro pins s σ H D I q
  have q' : tTryK X.K z i k (b.t G) D σ H := by
    have q := q (by rw [hG]; exact hca)
    rw [hG] at q
    exact q
  unfold tTryK at q'
  rw [hz] at q'
  exact h.run pins s σ H D I q'
/-! the class of a kept error -/
def clsV (K : PySem.W.Frag) (z : Str) : V := match clsOf K z with
  | .ref C => .ref C
  | _ => .non
/-- what isinstance asks of these classes, none of which stands under another -/
structure IsTab (K : PySem.W.Frag) (zs : List Str) : Prop where
  cl : ∀ z ∈ zs, ∃ C : Addr, clsOf K z = .ref C ∧ ExcC K C ∧ PySem.W.kitOne K (.type "NoneType") (.ref C) = some false
  is_ : ∀ z ∈ zs, ∀ y ∈ zs, PySem.W.kitOne K (clsOf K z) (clsOf K y) = some (decide (z = y))
def rIsE2 (K : PySem.W.Frag) : List V → Hp → VK → Prop := fun xs H Q => rIsK K xs H Q ∨ rIsi K xs H Q
theorem call_isE2 {X : Cx} : CallR X (.builtin "isinstance") (rIsE2 X.K) := by
  intro pins s σ H xs us Q I r h
  rcases h with h | h
  · exact call_isK pins s σ H xs us Q I r h
  · exact call_isi pins s σ H xs us Q I r h
#check @TyX
#print TyX
end Px

set_option Elab.async false
set_option linter.all false
set_option autoImplicit false
set_option maxRecDepth 100000
set_option maxHeartbeats 4000000
/-! isinstance of a kept error, its fields. -/
namespace Px
open PySem PySem.Spec PyProof.Rows L2 Lw
def Xe.isx (i : Nat) (y : Str) (zs : List Str) : Xe where
  t g := fun σ H Q => IsTab g.K zs → tCB (rIsE2 g.K) (tCons (tVar i) (tCons (tC (clsV g.K y)) tNil)) σ H Q
  ev a := match gt a i with
    | some (.exc z _) => if z ∈ zs ∧ y ∈ zs then some (.bool (decide (z = y)), a) else none
    | some (.dat .none) => if y ∈ zs then some (.bool false, a) else none
    | _ => none
  ok g a d a' h p0 e he := by
    intro F I0 I σ H E Q q tab
    split at h
    · rename_i z fs hg
      split at h
      · rename_i hm
        cases h
        obtain ⟨x, hx, hv⟩ := he.at_ i _ hg
        cases hv
        obtain ⟨v, hs, a0, C, vs, rfl, hC, hX, hn, hd⟩ := E.at_ i _ hx
        obtain ⟨C', hC', T, _⟩ := tab.cl z hm.1
        rw [hC] at hC'
        cases hC'
        obtain ⟨D, hD, _, _⟩ := tab.cl y hm.2
        have hk := tab.is_ z hm.1 y hm.2
        rw [hC, hD] at hk
        have hV : clsV g.K y = .ref D := by unfold clsV; rw [hD]
        refine ⟨_, hs, ?_⟩
        rw [hV]
        exact .inl ⟨a0, C, vs, _, _, _, rfl, .own D, hX.mono E.ih, T, hk, q (.bl _) I H _ e E (Ex.refl I) (.bl _) ⟨rfl, he⟩⟩
      · cases h
    · rename_i hg
      split at h
      · rename_i hm
        cases h
        obtain ⟨x, hx, hv⟩ := he.at_ i _ hg
        cases hv
        obtain ⟨v, hs, hd⟩ := E.at_ i _ hx
        cases hd
        obtain ⟨D, hD, _, hN⟩ := tab.cl y hm
        have hV : clsV g.K y = .ref D := by unfold clsV; rw [hD]
        refine ⟨_, hs, ?_⟩
        rw [hV]
        exact .inr ⟨.non, .ref D, .type "NoneType", .ref D, false, rfl, .own D, .base .non, hN, q (.bl _) I H _ e E (Ex.refl I) (.bl _) ⟨rfl, he⟩⟩
      · cases h
    · cases h
/-- the field f of the kept error, which is of the class z -/
def fieldOf (fs : List (Str × PyData)) (f : Str) : Option PyData := fs.lookup f
def clsA (K : PySem.W.Frag) (z : Str) : Addr := match clsOf K z with
  | .ref C => C
  | _ => 0
theorem lookup_all {K : PySem.W.Frag} {I : Hp} {f : Str} : ∀ {vs : List (Str × V)} {fs : List (Str × PyData)} {d : PyData}, vs.map (·.1) = fs.map (·.1) → DqAll K I (vs.map (·.2)) (fs.map (·.2)) → fs.lookup f = some d → ∃ v, vs.lookup f = some v ∧ Dq K I v d
  | [], [], _, _, _, h => by cases h
  | [], _ :: _, _, h, _, _ => by cases h
  | _ :: _, [], _, h, _, _ => by cases h
  | (x, v) :: vs, (y, d') :: fs, d, hn, hd, h => by
    have hn := List.cons.inj hn
    obtain rfl : x = y := hn.1
    cases hd with
    | cons hd1 hd2 =>
      by_cases e : f = x
      · subst e
        rw [List.lookup_cons_self] at h
        cases h
        exact ⟨v, List.lookup_cons_self, hd1⟩
      · have e' : (f == x) = false := by simpa using e
        rw [List.lookup_cons, e'] at h
        obtain ⟨w, h1, h2⟩ := lookup_all hn.2 hd2 h
        exact ⟨w, by rw [List.lookup_cons, e']; exact h1, h2⟩
def Xe.xfld (i : Nat) (z f : Str) : Xe where
  t g := tXk (clsA g.K z) f (tVar i)
  ev a := match gt a i with
    | some (.exc z' fs) => if z' = z then (fieldOf fs f).bind fun d => some (d, a) else none
    | _ => none
  ok g a d a' h p0 e he := by
    intro F I0 I σ H E Q q
    split at h
    · rename_i z' fs hg
      split at h
      · rename_i hz
        subst hz
        obtain ⟨d1, hd1, h⟩ := Option.bind_eq_some_iff.mp h
        cases h
        obtain ⟨x, hx, hv⟩ := he.at_ i _ hg
        cases hv
        obtain ⟨v, hs, a0, C, vs, rfl, hC, hX, hn, hd⟩ := E.at_ i _ hx
        obtain ⟨w, hw, hdw⟩ := lookup_all hn hd hd1
        have hA : clsA g.K z' = C := by unfold clsA; rw [hC]
        refine ⟨_, hs, a0, vs, w, rfl, ?_, hw, q w I H _ e E (Ex.refl I) hdw ⟨rfl, he⟩⟩
        rw [hA]
        exact hX.mono E.ih
      · cases h
    · cases h
end Px

set_option Elab.async false
set_option linter.all false
set_option autoImplicit false
set_option maxRecDepth 100000
set_option maxHeartbeats 4000000
/-! Loops whose body may raise. -/
namespace Px
open PySem PySem.Spec PyProof.Rows L2 Lw
def RunW (K : PySem.W.Frag) (W : WX) (ts : TS) (env : Env) (P : Pst) (X : ExR → Env → Prop) : Prop :=
  ∀ (F I0 I : Hp) (σ : L2.St) (H : Hp) (D : Ends), EnvI K F I0 I σ H env → AnsX K F I0 D P →
    (∀ (r : ExR) (I' : Hp) (σ' : L2.St) (H' : Hp) (e : Env) (cls : Value) (d : Option Addr), EnvI K F I0 I' σ' H' e → X r e → ExOk K I' r cls d → W cls d σ' H') → ts D σ H
theorem runW_for {K : PySem.W.Frag} {W0 : WX} {wi : TI} {g : TG} {t : TS} {env : Env} {P : Pst} {X : ExR → Env → Prop} (hw : EvWE K wi env fun ds e0 => ∃ In : Nat → Env → Prop, In 0 e0 ∧ (∀ (j : Nat) (d : PyData) (e : Env), ds[j]? = some d → In j e → Tgt K g d e fun e' => RunW K W0 t e' ⟨In (j + 1), P.rt, P.rf, P.nx, In (j + 1)⟩ X) ∧ ∀ e, In ds.length e → P.nx e) : RunW K W0 (tFor wi g t) env P X := fun F I0 I σ H D E A B =>
  hw F I0 I σ H E _ fun J I1 H1 G Y ds e0 ⟨In, h0, hs, hd⟩ E1 x1 W hG hY => by
    refine for_it W (fun j σ' H' => ∃ I' e, EnvI K F I0 I' σ' H' e ∧ Ex I1 I' ∧ In j e) ⟨I1, e0, E1, Ex.refl _, h0⟩ (fun j σ' H' _ ⟨I', e, E', x', _⟩ => hG H' (x'.trans E'.ih)) (fun j x σ' H' H3 hj hP hy => ?_) (fun σ' H' ⟨I', e, E', _, p⟩ => A.nx I' σ' H' e E' (hd e p))
    obtain ⟨I', e, E', x', p⟩ := hP
    obtain ⟨d, hdj, hx⟩ := hY j H' x H3 I' hj x' E'.ih hy
    have go : ∀ I3, Ex I' I3 → EnvI K F I0 I3 σ' H3 e → Dq K I3 x d → g x σ' H3 fun σ2 H2 => t { D with nx := fun σ' H' => ∃ I' e, EnvI K F I0 I' σ' H' e ∧ Ex I1 I' ∧ In (j + 1) e, ct := fun σ' H' => ∃ I' e, EnvI K F I0 I' σ' H' e ∧ Ex I1 I' ∧ In (j + 1) e, bk := D.nx } σ2 H2 := fun I3 x3 E3 hxd =>
      hs j d e hdj p F I0 I3 σ' H3 x E3 hxd _ fun σ2 e2 E2 r _ => by
        have E2' : EnvI K F I3 I3 σ2 H3 e2 := ⟨E2.fh, Ex.refl _, E2.ih, fun a h1 h2 => h2, E2.len, E2.at_, E2.ne⟩
        have back : ∀ {I4 : Hp} {σ4 : L2.St} {H4 : Hp} {e4 : Env}, EnvI K F I3 I4 σ4 H4 e4 → EnvI K F I0 I4 σ4 H4 e4 := fun {I4 σ4 H4 e4} E4 => ⟨E4.fh, E2.oi.trans E4.oi, E4.ih, fun a h1 h2 => E4.fr a h1 (E2.fr a h1 h2), E4.len, E4.at_, E4.ne⟩
        exact r F I3 I3 σ2 H3 _ E2' ⟨fun I4 σ4 H4 e4 E4 q => ⟨I4, e4, back E4, (x'.trans x3).trans E4.oi, q⟩, fun v I4 σ4 H4 d4 e4 E4 hd4 q => A.rt v I4 σ4 H4 d4 e4 (back E4) hd4 q, fun b I4 σ4 H4 xs ds e4 E4 f1 f2 f3 f4 f5 f6 q => A.rf b I4 σ4 H4 xs ds e4 (back E4) f1 (E2.oi.back f2) f3 f4 f5 f6 q, fun I4 σ4 H4 e4 E4 q => A.nx I4 σ4 H4 e4 (back E4) q, fun I4 σ4 H4 e4 E4 q => ⟨I4, e4, back E4, (x'.trans x3).trans E4.oi, q⟩⟩
          fun r4 I4 σ4 H4 e4 cls d4 E4 q hx4 => B r4 I4 σ4 H4 e4 cls d4 (back E4) q hx4
    rcases hx with ⟨eH, hxd⟩ | ⟨T, o, hT, eH, hxd⟩
    · subst eH
      exact go I' (Ex.refl _) E' hxd
    · subst eH
      exact go _ (Ex.new (E'.ih.back hT)) (E'.newD hT) hxd
def forY (g : Xg) (b : Ys) (w : List Nat) : List PyData → AE → Option OutX
  | [], a => some (.o (.nx a))
  | d :: ds, a => (g.ev d a).bind fun a1 => (b.run a1).bind fun o => match o with
    | .o (.nx a2) => forY g b w ds (wp a2 w)
    | .o (.ct a2) => forY g b w ds (wp a2 w)
    | .o (.bk a2) => some (.o (.nx a2))
    | .o (.rt d a2) => some (.o (.rt d a2))
    | .o (.rf d a2) => some (.o (.rf d a2))
    | .ex r a2 => some (.ex r a2)
def Ys.forS (it : Xi) (g : Xg) (b : Ys) (w : List Nat) : Ys where
  t G W := tFor (it.t G) (g.t G) (b.t G W)
  run a := (it.ev a).bind fun p => forY g b w p.1 (wp p.2 w)
  ok G W a o h p0 e he := by
    obtain ⟨⟨ds, a1⟩, h1, h⟩ := Option.bind_eq_some_iff.mp h
    have R : RunW G.K W (tFor (it.t G) (g.t G) (b.t G W)) e (pstO p0 o) fun r e' => ∃ a', o = .ex r a' ∧ Ab p0 e' a' := by
      refine runW_for ((it.ok G a _ _ h1 p0 e he).imp fun ds' e0 ⟨ed, ha⟩ => ?_)
      subst ed
      refine ⟨fun j e => ∃ a2, Ab p0 e a2 ∧ forY g b w (ds'.drop j) a2 = some o ∨ (pstO p0 o).nx e ∧ j = ds'.length, ⟨_, .inl ⟨ha.wp' w, h⟩⟩, fun j y e hj hI => ?_, fun e hI => ?_⟩
      · have hlt := (List.getElem?_eq_some_iff.mp hj).1
        have hy : ds'[j] = y := (List.getElem?_eq_some_iff.mp hj).2
        obtain ⟨a2, ⟨h2, h3⟩ | ⟨_, h3⟩⟩ := hI
        · rw [List.drop_eq_getElem_cons hlt, hy, forY] at h3
          obtain ⟨a3, g1, h3⟩ := Option.bind_eq_some_iff.mp h3
          obtain ⟨o2, g2, h3⟩ := Option.bind_eq_some_iff.mp h3
          refine Tgt.imp (g.ok G _ _ _ g1 p0 e h2) fun e3 h5 => ?_
          refine fun F I0 I σ H D E A B => b.ok G W _ _ g2 p0 e3 h5 F I0 I σ H D E ?_ ?_
          · cases o2 with
            | ex r a1 => exact ⟨fun _ _ _ _ _ z => z.elim, fun _ _ _ _ _ _ _ _ z => z.elim, fun _ _ _ _ _ _ _ _ _ _ _ _ _ _ z => z.elim, fun _ _ _ _ _ z => z.elim, fun _ _ _ _ _ z => z.elim⟩
            | o x1 =>
              refine ⟨?_, ?_, ?_, ?_, ?_⟩
              · rintro I' σ' H' e' E' ⟨a4, rfl, h6⟩
                exact A.nx I' σ' H' e' E' ⟨_, .inl ⟨h6.wp' w, h3⟩⟩
              · rintro v I' σ' H' d e' E' hd ⟨a4, rfl, h6⟩
                cases h3
                exact A.rt v I' σ' H' d e' E' hd ⟨_, rfl, h6⟩
              · rintro c I' σ' H' xs ds e' E' f1 f2 f3 f4 f5 f6 ⟨a4, rfl, h6⟩
                cases h3
                exact A.rf c I' σ' H' xs ds e' E' f1 f2 f3 f4 f5 f6 ⟨_, rfl, h6⟩
              · rintro I' σ' H' e' E' ⟨a4, rfl, h6⟩
                cases h3
                exact A.bk I' σ' H' e' E' ⟨_, rfl, h6⟩
              · rintro I' σ' H' e' E' ⟨a4, rfl, h6⟩
                exact A.ct I' σ' H' e' E' ⟨_, .inl ⟨h6.wp' w, h3⟩⟩
          · rintro r a4 rfl I' σ' H' e' cls d E' h6 hx
            cases h3
            exact B r I' σ' H' e' cls d E' ⟨a4, rfl, h6⟩ hx
        · omega
      · obtain ⟨a2, ⟨h2, h3⟩ | ⟨h3, _⟩⟩ := hI
        · rw [List.drop_length, forY] at h3
          cases h3
          exact ⟨_, rfl, h2⟩
        · exact h3
    exact fun F I0 I σ H D E A B => R F I0 I σ H D E A fun r I' σ' H' e' cls d E' ⟨a', h1, h2⟩ hx => B r a' h1 I' σ' H' e' cls d E' h2 hx
end Px

set_option Elab.async false
set_option linter.all false
set_option autoImplicit false
set_option maxRecDepth 100000
set_option maxHeartbeats 4000000
/-! raise of an own class with its own __init__. -/
namespace Px
open PySem PySem.Spec PyProof.Rows L2 Lw
theorem dpA_rev {K : PySem.W.Frag} {I : Hp} : ∀ {vs : List V} {ds : List PyData}, DqAll K I vs ds → DqAll K I vs.reverse ds.reverse
  | [], _, h => by cases h; exact .nil
  | v :: vs, _, h => by
    cases h with
    | cons h1 h2 =>
      rw [List.reverse_cons, List.reverse_cons]
      have app : ∀ {us : List V} {es : List PyData} {w : V} {c : PyData}, DqAll K I us es → Dq K I w c → DqAll K I (us ++ [w]) (es ++ [c]) := by
        intro us
        induction us with
        | nil => intro es w c h k; cases h; exact .cons k .nil
        | cons u us ih => intro es w c h k; cases h with | cons a b => exact .cons a (ih b k)
      exact app (dpA_rev h2) h1
/-- what __init__ keeps: the fields ns, in the order of its arguments -/
def spIni (C : Addr) (ns : List Str) : Sp := fun us H Q _ => ∃ (a : Addr) (vs : List V), us = .ref a :: vs ∧ vs.length = ns.length ∧ H a = some (exo a C none) ∧
  ∀ (dx : Addr) (H' : Hp), H dx = none → dx ≠ a → H' a = some (exo a C (some dx)) → H' dx = some (exd dx (ns.zip vs).reverse) → (∀ b, b ≠ a → b ≠ dx → H' b = H b) → Q .non H'
def tRaiseI (K : PySem.W.Frag) (z : Str) (ns : List Str) (ta : TA) (W : WX) : TS := fun _ σ H => (∃ C, clsOf K z = .ref C) → tMkO (clsA K z) (spIni (clsA K z) ns) [] ta σ H fun cls d H' => W cls d σ H'
def Ys.raiseI (z : Str) (ns : List Str) (xs : Xa) : Ys where
  t g W := tRaiseI g.K z ns (xs.t g) W
  run a := (xs.ev a).bind fun p => if p.1.length = ns.length ∧ ns.length ≤ 1000 then some (.ex (z, (ns.zip p.1).reverse) p.2) else none
  ok g W a o h p0 e he F I0 I σ H D E A B := by
    rintro ⟨C, hC⟩
    obtain ⟨⟨ds, a1⟩, h1, h⟩ := Option.bind_eq_some_iff.mp h
    dsimp only at h
    split at h
    · rename_i hl
      cases h
      refine xs.ok g a _ _ h1 p0 e he F I0 I σ H E _ fun vs I1 H1 ds' e1 E1 x1 hvs ⟨ed, ha⟩ => ?_
      subst ed
      have hv : vs.length = ns.length := (dpA_len hvs).trans hl.1
      refine ⟨by rw [hv]; exact hl.2, fun a0 ha0 => ⟨a0, vs, by rw [List.append_nil], hv, upd_same, fun dx H' hd hne e1' e2 e3 => ⟨rfl, dx, _, e1', e2, (upd_ne hne).symm.trans hd, ?_⟩⟩⟩
      have hd1 : H1 dx = none := (upd_ne hne).symm.trans hd
      have eH : upd (L2.del H' a0) dx (.xd (ns.zip vs).reverse) = upd H1 dx (.xd (ns.zip vs).reverse) := by
        funext b
        by_cases q : b = dx
        · subst q
          rw [upd_same, upd_same]
        · rw [upd_ne q, upd_ne q]
          by_cases q2 : b = a0
          · subst q2
            rw [L2.del_same, ha0]
          · rw [L2.del_ne q2, e3 b q2 q, upd_ne q2]
      rw [eH]
      have E2 := E1.newD (o := .xd (ns.zip vs).reverse) hd1
      have hI : I1 dx = none := by
        cases q : I1 dx with
        | none => rfl
        | some o => rw [E1.ih dx o q] at hd1; cases hd1
      have hA : clsA g.K z = C := by unfold clsA; rw [hC]
      refine B _ _ rfl _ σ _ _ _ _ E2 ha ⟨by rw [hA]; exact hC.symm, dx, _, rfl, upd_same, ?_, ?_⟩
      · rw [List.map_reverse, List.map_reverse, zip_fst ns vs hv, zip_fst ns _ hl.1]
      · rw [List.map_reverse, List.map_reverse, zip_snd ns vs hv, zip_snd ns _ hl.1]
        exact dpA_rev (dpA_mono (fun b o hb => (upd_ne (fun q => by rw [q, hI] at hb; cases hb)).trans hb) hvs)
    · cases h
/-- what the class's __init__ must be known by -/
structure IniC (P : Program) (w : World) (K : PySem.W.Frag) (mg : Str → Option Value) (base : Heap) (k : Nat) (z : Str) (ns : List Str) : Prop where
  ex : ∃ (C fI : Addr) (fd : FuncData) (ps : List Str), clsOf K z = .ref C ∧ mg z = some (.ref C) ∧ OexC K C ∧ PySem.W.findIn K (.ref C) "__init__" = some (some (.ref fI)) ∧ PySem.W.typeIn K (.ref fI) = some (.type "function") ∧
    FnOk P w K mg base L2.CX0 k fI fd ps (spIni C ns) ∧ Binds K fd ps []
theorem ps_raiseI {X : Cx} {W : WX} {k j : Nat} {z : Str} {ns : List Str} {e : Expr} {es : List Expr} {ta : TA} {p pos pos' : Pos} (T : IniC X.prog X.w X.K X.mg X.base k z ns) (hc : X.calm = true) (tk : Takes X W) (hr : Room (j + 1) X.A) (hk : k ≤ j) (hg : Gl X z) (ha : PA X (e :: es) ta)
    (hdb : (z == ("__debug__" : Str)) = false := by decide) (he : starEach (e :: es) X.env = (false, eval e X.env) :: starEach es X.env := by rfl) (hpl : (backTo pos (starEach es X.env)).any (·.1) = false := by rfl) :
    PS X (.Raise (some (.Call (.Name z p) (e :: es) [] pos)) none pos') (tRaiseI X.K z ns ta W) := by
  obtain ⟨C, fI, fd, ps, hC, hm, T1, iC, tI, F, hb⟩ := T.ex
  have hA : clsA X.K z = C := by unfold clsA; rw [hC]
  have h := ps_raise (pos := pos') hc tk (pmk_oex (p := p) (pos := pos) T1 iC tI F (hr.mono (by omega)) hb .nil L2.pass0 hg hm ha hdb he hpl)
  constructor
  intro pins s σ H D I q
  refine h.run pins s σ H D I ?_
  have q' := q ⟨C, hC⟩
  rw [hA] at q'
  exact q'
end Px

set_option Elab.async false
set_option linter.all false
set_option autoImplicit false
set_option maxRecDepth 100000
set_option maxHeartbeats 4000000
/-! A part that raises nothing, where something may. -/
namespace Px
open PySem PySem.Spec PyProof.Rows L2 Lw
theorem ps_quiet {X : Cx} {st : Stmt} {t : TS} (h : PS X.nox st t) : PS X st t := by
  constructor
  intro pins s σ H D I hw
  exact wpAny_mono (h.run pins s σ H D (I.wish _) hw) (fun _ _ q => q.unwish) fun _ _ z => z.elim
theorem pss_Yof {X : Cx} {G : Gx} {W : WX} {b : List Stmt} {x : Xs} (h : PSs X.nox b (x.t G)) : PSs X b ((Ys.of x).t G W) := h.nox
/-- kept is None -/
def Xe.isNx (i : Nat) : Xe where
  t g := tOp (oIsN.r g) (tVar i) (tC .non)
  ev a := match gt a i with
    | some (.exc _ _) => some (.bool false, a)
    | some (.dat .none) => some (.bool true, a)
    | _ => none
  ok g a d a' h p0 e he := by
    split at h
    · rename_i z fs hg
      cases h
      intro F I0 I σ H E Q q
      obtain ⟨x, hx, hv⟩ := he.at_ i _ hg
      cases hv
      obtain ⟨v, hs, a0, C, vs, rfl, hC, hX, hn, hd⟩ := E.at_ i _ hx
      refine ⟨_, hs, rfl, ?_⟩
      rw [decide_eq_false (fun q => nomatch q)]
      exact q (.bl false) I H _ e E (Ex.refl I) (.bl _) ⟨rfl, he⟩
    · rename_i hg
      cases h
      intro F I0 I σ H E Q q
      obtain ⟨x, hx, hv⟩ := he.at_ i _ hg
      cases hv
      obtain ⟨v, hs, hd⟩ := E.at_ i _ hx
      cases hd
      refine ⟨_, hs, rfl, ?_⟩
      rw [decide_eq_true rfl]
      exact q (.bl true) I H _ e E (Ex.refl I) (.bl _) ⟨rfl, he⟩
    · cases h
end Px

set_option Elab.async false
set_option linter.all false
set_option autoImplicit false
set_option maxRecDepth 100000
set_option maxHeartbeats 4000000
/-! xs[k] op= y, xs one's own. -/
namespace Px
open PySem PySem.Spec PyProof.Rows L2 Lw
/-- xs[k] of a list, from the left -/
def rGetP : V → V → Hp → VK → Prop := fun o i H Q => ∃ (p : Addr) (xs : List V) (k : Int) (v : V), o = .ref p ∧ i = .int k ∧ 0 ≤ k ∧ H p = some (.lst xs) ∧ xs[k.toNat]? = some v ∧ Q v H
theorem get_P {X : Cx} : PGet X rGetP := by
  intro pins s σ H o i ov iv Q I ro ri h
  obtain ⟨p, xs, k, v, rfl, rfl, h0, hp, hk, q⟩ := h
  cases ro
  obtain ⟨t, rfl⟩ := ri
  obtain ⟨its, r, pl, hz⟩ := I.list (SqL.of hp)
  obtain ⟨w, ew, rw'⟩ := r.get hk
  have hlt := (List.getElem?_eq_some_iff.mp ew).1
  exact wpAny_getItem_list pl.isList h0 (by have h1 := r.length; have h2 := line63; omega) (by simpa using ew) ⟨v, H, I, rw', q⟩
def augOp (sub : Bool) (n m : Int) : Int := if sub then n - m else n + m
/-- xs[k] += y, xs[k] -= y of whole numbers -/
def Xs.augI (i : Nat) (sub : Bool) (k y : Xe) : Xs where
  t g := tAugS (tVar i) (k.t g) (y.t g) rGetP (ipI (augOp sub)) rSetL
  run a := match gt a i with
    | some (.lst _ _) => (k.ev a).bind fun p => match p.1, gt p.2 i with
      | .int j, some (.lst _ ds) => if 0 ≤ j then (match ds[j.toNat]? with
        | some (.int n) => (y.ev p.2).bind fun q => match q.1, gt q.2 i with
          | .int m, some (.lst b ds2) => if j.toNat < ds2.length then some (.nx (st q.2 i (some (.lst b (ds2.set j.toNat (.int (augOp sub n m))))))) else none
          | _, _ => none
        | _ => none) else none
      | _, _ => none
    | _ => none
  ok g a o h p0 e he F I0 I σ H D E A := by
    split at h
    case h_2 => cases h
    rename_i _ d0 g0
    obtain ⟨⟨kd, a1⟩, h1, h⟩ := Option.bind_eq_some_iff.mp h
    dsimp only at h
    split at h
    case h_2 => cases h
    rename_i _ _ j _ ds g1
    split at h
    case isFalse => cases h
    rename_i hj0
    split at h
    case h_2 => cases h
    rename_i n hn
    obtain ⟨⟨md, a2⟩, h2, h⟩ := Option.bind_eq_some_iff.mp h
    dsimp only at h
    split at h
    case h_2 => cases h
    rename_i _ _ m b ds2 g2
    split at h
    case isFalse => cases h
    rename_i hlt
    cases h
    obtain ⟨q0, hq0, _⟩ := he.lst g0
    obtain ⟨v0, hs0, ev0, _⟩ := E.at_ i _ hq0
    subst ev0
    refine ⟨.ref q0, hs0, k.ok g a _ _ h1 p0 e he F I0 I σ H E _ fun kv I1 H1 kd' e1 E1 x1 hk ⟨ek, ha1⟩ => ?_⟩
    subst ek
    cases dp_int hk
    obtain ⟨p, hp, _⟩ := ha1.lst g1
    obtain ⟨v1, hs1, ev1, _, _, xs1, hh1, hd1⟩ := E1.at_ i _ hp
    subst ev1
    rw [hs0] at hs1
    cases hs1
    obtain ⟨w, hw, hdw⟩ := dpA_get hd1 hn
    cases dp_int hdw
    refine ⟨q0, xs1, j, _, rfl, rfl, hj0, hh1, hw, y.ok g a1 _ _ h2 p0 e1 ha1 F I0 I1 σ H1 E1 _ fun yv I2 H2 md' e2 E2 x2 hy ⟨em, ha2⟩ => ?_⟩
    subst em
    cases dp_int hy
    refine ⟨n, m, rfl, rfl, ?_⟩
    obtain ⟨p2, hp2, hq2⟩ := ha2.lst g2
    obtain ⟨v2, hs2, ev2, hf2, hi2, xs2, hh2, hd2⟩ := E2.at_ i _ hp2
    subst ev2
    rw [hs0] at hs2
    cases hs2
    have hl := dpA_len hd2
    refine ⟨q0, xs2, j, j.toNat, rfl, rfl, hh2, ?_, ?_⟩
    · unfold ixN
      rw [if_pos hj0, if_pos (by omega)]
    · exact A.nx I2 σ _ _ (E2.putC (y := .lst q0 (ds2.set j.toNat (.int (augOp sub n m)))) hp2 rfl hs0 hi2 hf2 ⟨rfl, hf2, hi2, _, upd_same, dpA_set j.toNat hd2 (.int _)⟩) ⟨_, rfl, ha2.set i (.lst _ _ _ hq2)⟩
theorem ip_augS {X : Cx} : PIp X .Sub (ipI (augOp true)) := ip_sub
theorem ip_augA {X : Cx} : PIp X .Add (ipI (augOp false)) := ip_add
end Px

set_option Elab.async false
set_option linter.all false
set_option autoImplicit false
set_option maxRecDepth 100000
set_option maxHeartbeats 4000000
/-! enumerate over a list. -/
namespace Px
open PySem PySem.Spec PyProof.Rows L2 Lw
def itEnumL (x : Xe) : Xi where
  t g := iEnum g.K (tCons (x.t g) tNil)
  ev a := (x.ev a).bind fun p => match p.1 with
    | .list ds => some (pairsD 0 ds, p.2)
    | _ => none
  ok g a d a' h p0 e he F I0 I σ H E R q := by
    obtain ⟨⟨d1, a1⟩, h1, h⟩ := Option.bind_eq_some_iff.mp h
    refine x.ok g a _ _ h1 p0 e he F I0 I σ H E _ fun v I1 H1 ds e1 E1 x1 hd ⟨ed, ha⟩ => ?_
    subst ed
    dsimp only at h
    split at h
    · rename_i ds _
      cases h
      obtain ⟨b, xs, rfl, hs, hds⟩ := dp_lst hd
      have hl := dpA_len hds
      have hs' : SqL g.K I1 b xs := .of hs
      refine ⟨b, xs, rfl, E1.ih.l hs', q _ I1 H1 _ _ _ e1 ⟨rfl, ha⟩ E1 x1 (by rw [pairsD_len, ← hl]; exact walk_enum (K := g.K) (a := b) (xs := xs)) (fun H2 x => x.l hs') fun j H2 x H3 I2 hj x2 x3 y => ?_⟩
      obtain ⟨T, y1, y2, ev, hT, eH, g1, g2⟩ := y
      cases g1
      subst ev eH
      rw [pairsD_len] at hj
      obtain ⟨w, hw, hwd⟩ := dpA_get hds (List.getElem?_eq_getElem hj)
      have g2' : xs[j]? = some y2 := g2
      rw [hw] at g2'
      cases g2'
      refine ⟨.tuple [.int (0 + (j : Int)), ds[j]], ?_, .inr ⟨T, _, hT, rfl, ?_⟩⟩
      · unfold pairsD
        rw [List.getElem?_mapIdx, List.getElem?_eq_getElem hj]
        rfl
      · have x4 : Ex I2 (upd I2 T (.tup [.int (j : Int), y2])) := Ex.new (x3.back hT)
        rw [Int.zero_add]
        exact .tup (.inl (.inl upd_same)) (.cons (.int _) (.cons (dp_mono (x2.trans x4) hwd) .nil))
    · cases h
end Px

set_option Elab.async false
set_option linter.all false
set_option autoImplicit false
set_option maxRecDepth 100000
set_option maxHeartbeats 4000000
/-! What a law's catching def asks of the classes of errors. -/
namespace Px
open PySem PySem.Spec PyProof.Rows L2 Lw
/-- z catches the classes zs; flds: (class, field) that are read -/
structure ErrC (K : PySem.W.Frag) (mg : Str → Option Value) (z : Str) (zs : List Str) (flds : List (Str × Str)) : Prop where
  top : ∃ C : Addr, mg z = some (.ref C) ∧ clsOf K z = .ref C
  caught : Caught K z zs
  tab : IsTab K zs
  name : ∀ y ∈ zs, ∃ C : Addr, mg y = some (.ref C) ∧ clsOf K y = .ref C
  fld : ∀ p ∈ flds, XfC K (clsA K p.1) ∧ PySem.W.findIn K (.ref (clsA K p.1)) p.2 = some none
section
variable {X : Cx} {G : Gx} {z : Str} {zs : List Str} {flds : List (Str × Str)}
theorem pe_cls (T : ErrC X.K X.mg z zs flds) {y : Str} {pos : Pos} (hy : y ∈ zs) (hg : Gl X y) (hd : (y == ("__debug__" : Str)) = false := by decide) : PE X (.Name y pos) (tC (clsV X.K y)) := by
  obtain ⟨C, hm, hc⟩ := T.name y hy
  have e : clsV X.K y = .ref C := by unfold clsV; rw [hc]
  rw [e]
  exact gk ⟨_, hm, rfl⟩ hg hd
theorem pe_isx (hG : G.K = X.K) (T : ErrC X.K X.mg z zs flds) {i : Nat} {y : Str} {e : Expr} (h : PE X e (tCB (rIsE2 X.K) (tCons (tVar i) (tCons (tC (clsV X.K y)) tNil)))) : PE X e ((Xe.isx i y zs).t G) := by
  constructor
  intro pins s σ H Q I q
  refine h.run pins s σ H Q I ?_
  have q' := q (by rw [hG]; exact T.tab)
  rw [hG] at q'
  exact q'
theorem pe_xfld (hG : G.K = X.K) (T : ErrC X.K X.mg z zs flds) {i : Nat} {y f : Str} {e : Expr} {pos : Pos} (hf : (y, f) ∈ flds) (he : PE X e (tVar i)) (hb : attributeBase e f X.env (eval e X.env) = eval e X.env := by rfl) : PE X (.Attribute e f pos) ((Xe.xfld i y f).t G) := by
  obtain ⟨h1, h2⟩ := T.fld _ hf
  have h := pe_xk (pos := pos) h1 h2 he hb
  constructor
  intro pins s σ H Q I q
  have q : tXk (clsA G.K y) f (tVar i) σ H Q := q
  rw [hG] at q
  exact h.run pins s σ H Q I q
theorem ps_catch (hG : G.K = X.K) (T : ErrC X.K X.mg z zs flds) {n : Str} {i k : Nat} {b : Ys} {body : List Stmt} {s0 : Stmt} {np pos pos' : Pos} (hs : X.stack = X.env :: X.outer) (hf : X.env.frame = some X.env.locals) (hex : X.ex = []) (hN : X.N.Nodup) (hi : X.N[i]? = some n) (hln : X.env.kindOf n = some .local)
    (hg : Gl X z) (hb : ∀ (W : WX) (pn : List (Addr × Obj)) (xe : Value → Shared → Prop), Takes (X.tr pn xe) W → PSs (X.tr pn xe) body (b.t G W))
    (hsu : ∀ (a : Addr) (oe : Obj) (pn : List (Addr × Obj)), PS (X.suite a ((a, oe) :: pn)) s0 (tKeep i k)) (hd : (z == ("__debug__" : Str)) = false := by decide) :
    PS X (.Try body [.ExceptHandler (some (.Name z np)) (some n) [s0] pos'] [] [] pos) ((Xs.tryK z zs i k b).t G) := by
  obtain ⟨C, hm, hc⟩ := T.top
  exact ps_tryK hG hs hf hex hN hi hln ⟨hg, hd, .inl hm⟩ hc T.caught hb hsu
end
end Px

set_option Elab.async false
set_option linter.all false
set_option autoImplicit false
set_option maxRecDepth 100000
set_option maxHeartbeats 4000000
/-! zip, as a bundle. -/
namespace Px
open PySem PySem.Spec PyProof.Rows L2 Lw Zn
def seqD : PyData → Option (List PyData)
  | .list ds => some ds
  | .tuple ds => some ds
  | _ => none
def allSeq : List PyData → Option (List (List PyData))
  | [] => some []
  | d :: r => (seqD d).bind fun ds => (allSeq r).bind fun dss => some (ds :: dss)
def minL : List (List PyData) → Nat
  | [] => 0
  | [ds] => ds.length
  | ds :: r => min ds.length (minL r)
def zipD (dss : List (List PyData)) : List PyData := (List.range (minL dss)).map fun i => .tuple (dss.map fun ds => (ds[i]?).getD .none)
theorem zipD_len (dss : List (List PyData)) : (zipD dss).length = minL dss := by simp [zipD]
theorem minL_le : ∀ {dss : List (List PyData)} {j : Nat} {ds : List PyData}, dss[j]? = some ds → minL dss ≤ ds.length
  | [], _, _, h => nomatch h
  | [es], 0, ds, h => by cases h; exact Nat.le_refl _
  | [es], j + 1, ds, h => nomatch h
  | es :: fs :: r, 0, ds, h => by cases h; exact Nat.min_le_left _ _
  | es :: fs :: r, j + 1, ds, h => Nat.le_trans (Nat.min_le_right _ _) (minL_le (dss := fs :: r) (j := j) h)
theorem minL_at : ∀ {dss : List (List PyData)}, dss ≠ [] → ∃ (j : Nat) (ds : List PyData), dss[j]? = some ds ∧ ds.length = minL dss
  | [], h => absurd rfl h
  | [es], _ => ⟨0, es, rfl, rfl⟩
  | es :: fs :: r, _ => by
    obtain ⟨j, ds, h1, h2⟩ := minL_at (dss := fs :: r) (by simp)
    rcases Nat.le_total es.length (minL (fs :: r)) with h | h
    · exact ⟨0, es, rfl, (Nat.min_eq_left h).symm⟩
    · exact ⟨j + 1, ds, h1, h2.trans (Nat.min_eq_right h).symm⟩
theorem dp_seq {K : PySem.W.Frag} {I : Hp} {v : V} {d : PyData} {ds : List PyData} (h : Dq K I v d) (e : seqD d = some ds) : ∃ (k : Kd) (a : Addr) (xs : List V), v = .ref a ∧ k.Sv K I a xs ∧ DqAll K I xs ds := by
  cases d with
  | list es =>
    cases e
    obtain ⟨a, xs, rfl, h1, h2⟩ := dp_lst h
    exact ⟨.l, a, xs, rfl, .of h1, h2⟩
  | tuple es =>
    cases e
    obtain ⟨a, xs, rfl, h1, h2⟩ := dp_tup h
    exact ⟨.t, a, xs, rfl, h1, h2⟩
  | _ => cases e
theorem Sv.mono {K : PySem.W.Frag} {I H : Hp} {a : Addr} {xs : List V} (x : Ex I H) : ∀ {k : Kd}, k.Sv K I a xs → k.Sv K H a xs
  | .l, h => x.l h
  | .t, h => x.t h
theorem dp_seqs {K : PySem.W.Frag} {I : Hp} : ∀ {vs : List V} {ds : List PyData} {dss : List (List PyData)}, DqAll K I vs ds → allSeq ds = some dss → ∃ (as : List (Kd × Addr)) (xss : List (List V)), as.length = ds.length ∧ xss.length = ds.length ∧ dss.length = ds.length ∧ vs = as.map (fun c => V.ref c.2) ∧
    ∀ (j : Nat) (c : Kd × Addr), as[j]? = some c → ∃ (xs : List V) (es : List PyData), xss[j]? = some xs ∧ dss[j]? = some es ∧ c.1.Sv K I c.2 xs ∧ DqAll K I xs es
  | _, [], _, .nil, e => by
    cases e
    exact ⟨[], [], rfl, rfl, rfl, rfl, fun j c h => (nomatch h)⟩
  | _, d :: ds, _, .cons h1 h2, e => by
    obtain ⟨es, e1, e⟩ := Option.bind_eq_some_iff.mp e
    obtain ⟨dss, e2, e⟩ := Option.bind_eq_some_iff.mp e
    cases e
    obtain ⟨k, a, xs, rfl, s1, s2⟩ := dp_seq h1 e1
    obtain ⟨as, xss, l1, l2, l3, rfl, hs⟩ := dp_seqs h2 e2
    refine ⟨(k, a) :: as, xs :: xss, congrArg (· + 1) l1, congrArg (· + 1) l2, congrArg (· + 1) l3, rfl, fun j c h => ?_⟩
    cases j with
    | zero =>
      cases h
      exact ⟨xs, es, rfl, rfl, s1, s2⟩
    | succ j => exact hs j c h
theorem dpA_of_get {K : PySem.W.Frag} {I : Hp} : ∀ {vs : List V} {ds : List PyData}, vs.length = ds.length → (∀ (m : Nat) (d : PyData), ds[m]? = some d → ∃ v, vs[m]? = some v ∧ Dq K I v d) → DqAll K I vs ds
  | [], [], _, _ => .nil
  | [], _ :: _, h, _ => by cases h
  | _ :: _, [], h, _ => by cases h
  | v :: vs, d :: ds, h, k => by
    obtain ⟨w, e, q⟩ := k 0 d rfl
    cases e
    exact .cons q (dpA_of_get (Nat.succ.inj h) fun m => k (m + 1))
/-- zip(xs..) of k lists or tuples -/
def itZip (k : Nat) (hk : k ≠ 0) (xs : Xa) : Xi where
  t g := iZipN g.K k (xs.t g)
  ev a := (xs.ev a).bind fun p => if p.1.length = k then (allSeq p.1).bind fun dss => some (zipD dss, p.2) else none
  ok g a d a' h p0 e he F I0 I σ H E R q := by
    obtain ⟨⟨ds0, a1⟩, h1, h⟩ := Option.bind_eq_some_iff.mp h
    split at h
    case isFalse => cases h
    rename_i hlen
    obtain ⟨dss, h2, h⟩ := Option.bind_eq_some_iff.mp h
    cases h
    refine xs.ok g a _ _ h1 p0 e he F I0 I σ H E _ fun vs I1 H1 ds e1 E1 x1 hvs ⟨ed, ha⟩ => ?_
    subst ed
    obtain ⟨as, xss, l1, l2, l3, rfl, hs⟩ := dp_seqs hvs h2
    have hlen' : ds.length = k := hlen
    refine ⟨as, l1.trans hlen', rfl, fun c hc => ?_, q _ I1 H1 _ _ _ e1 ⟨rfl, ha⟩ E1 x1 (by
      rw [zipD_len]
      refine walk_zipN (K := g.K) (as := as) (xss := xss) ⟨fun j c hj => ?_, ?_⟩
      · obtain ⟨ys, es, z1, z2, z3, z4⟩ := hs j c hj
        exact ⟨ys, z1, by rw [dpA_len z4]; exact minL_le z2⟩
      · obtain ⟨j, es, m1, m2⟩ := minL_at (dss := dss) (fun z => by rw [z] at l3; exact hk (by rw [← hlen', ← l3]; rfl))
        have hj : j < as.length := by rw [l1, ← l3]; exact (List.getElem?_eq_some_iff.mp m1).1
        have ej : as[j]? = some as[j] := List.getElem?_eq_getElem hj
        obtain ⟨ys, es', z1, z2, z3, z4⟩ := hs j _ ej
        rw [m1] at z2
        cases z2
        exact ⟨j, _, ys, ej, z1, by rw [dpA_len z4, m2]; exact Nat.le_refl _⟩) (fun H2 x j c ys hj hy => ?_) fun j H2 x H3 I2 hj x2 x3 y => ?_⟩
    · obtain ⟨j, hj⟩ := List.mem_iff_getElem?.mp hc
      obtain ⟨ys, es, z1, z2, z3, z4⟩ := hs j c hj
      exact ⟨ys, Sv.mono E1.ih z3⟩
    · obtain ⟨zs, es, z1, z2, z3, z4⟩ := hs j c hj
      rw [hy] at z1
      cases z1
      exact Sv.mono x z3
    · obtain ⟨T, ws, ev, hT, eH, wl, hw⟩ := y
      subst ev eH
      rw [zipD_len] at hj
      refine ⟨.tuple (dss.map fun es => (es[j]?).getD .none), ?_, .inr ⟨T, _, hT, rfl, ?_⟩⟩
      · unfold zipD
        rw [List.getElem?_map, List.getElem?_range hj]
        rfl
      · have x4 : Ex I2 (upd I2 T (.tup ws)) := Ex.new (x3.back hT)
        refine .tup (.inl (.inl upd_same)) (dpA_of_get (by rw [wl, List.length_map, l1, l3]) fun m d hm => ?_)
        rw [List.getElem?_map] at hm
        obtain ⟨es, m1, m2⟩ := Option.map_eq_some_iff.mp hm
        have hml : m < as.length := by rw [l1, ← l3]; exact (List.getElem?_eq_some_iff.mp m1).1
        obtain ⟨ys, es', z1, z2, z3, z4⟩ := hs m _ (List.getElem?_eq_getElem hml)
        rw [m1] at z2
        cases z2
        have hje : j < es.length := Nat.lt_of_lt_of_le hj (minL_le m1)
        obtain ⟨w, w1, w2⟩ := dpA_get z4 (List.getElem?_eq_getElem hje)
        refine ⟨w, by rw [hw m ys hml z1, w1], ?_⟩
        rw [← m2, List.getElem?_eq_getElem hje]
        exact dp_mono (x2.trans x4) w2
end Px

set_option Elab.async false
set_option linter.all false
set_option autoImplicit false
set_option maxRecDepth 100000
set_option maxHeartbeats 4000000
/-! tuple(d.values()). -/
namespace Zn
open PySem PySem.Spec PyProof.Rows L2
open PySem.W (KdlSrc kdl_values)
section
variable {prog : Program} {w : World} {A : Around} {E : Value → Shared → Prop} {s : Shared} {r d : Addr} {n : Nat} {P : Nat → Value → Prop} {OK : Heap → Prop}
theorem code_tupV {Q₁ : Value → Shared → Prop} (K : KdlSrc prog w "dict_values" r d n P OK) (hh : A.handled = none) (hok : OK s.heap) (hn : n ≤ sizeLine)
    (h : ∀ (h' : Heap) (tk : Nat) (acc : Array Value), (∀ b o, s.heap.get? b = some o → h'.get? b = some o) → ItemsOf P acc n → Q₁ (.ref h'.objs.size) { s with heap := h'.push { cls := .type "tuple", data := .seq acc }, toks := tk }) :
    codeAny (model prog w) A (.call (.builtin "tuple.__new__") ⟨[.type "tuple", .ref r], []⟩) (wants Q₁ E) s := by
  refine codeAny_of_tree ?_
  show wpAny _ A.in1 (do checkBuiltinCall "tuple.__new__" ⟨[.type "tuple", .ref r], []⟩; again (.builtin "tuple.__new__" ⟨[.type "tuple", .ref r], []⟩)) _ _ s
  refine wpAny_bind (wpAny_of_eq (F.newCall_tuple_1 _) (wpAny_pure ⟨plainId_quiet F.plain_tuple_new _, codeAny_builtin F.entry_tuple_new ?_⟩))
  rw [Around.under_plainId F.plain_tuple_new _]
  have a1 := sub_tuple_self
  have a2 := init_tuple_lookup
  have a3 := madeHere_tuple
  have a4 := K.type s hok
  have a5 : A.in1.handled = none := hh
  wp_walk using wpAny_typeOf a4, W.kdu_collect (A := A.in1) K a5 hok hn
  intro h' tk acc hk hacc
  show wpAny _ _ (Builtin.Tuple.tupleExact acc.toList.toArray >>= fun v => ret v) _ _ _
  unfold Builtin.Tuple.tupleExact
  have e : acc.toList.toArray = acc := by simp
  rw [e]
  exact wpAny_bind (wpAny_newObj_type (wpAny_pure (h h' tk acc hk hacc)) (by show acc.size ≤ sizeLine; rw [hacc.1]; exact hn))
theorem call_tupV {Q : Value → Shared → Prop} (K : KdlSrc prog w "dict_values" r d n P OK) (hh : A.handled = none) (hok : OK s.heap) (hn : n ≤ sizeLine)
    (h : ∀ (h' : Heap) (tk : Nat) (acc : Array Value), (∀ b o, s.heap.get? b = some o → h'.get? b = some o) → ItemsOf P acc n → Q (.ref h'.objs.size) { s with heap := h'.push { cls := .type "tuple", data := .seq acc }, toks := tk }) :
    wpAny (model prog w) A (call (.type "tuple") [.ref r]) Q E s := by
  refine callType_codes (Q₁ := fun obj s₁ => s₁.TypeIs obj "tuple" ∧ Q obj s₁) F.called_tuple (F.typeCall_tuple_1 _) F.entry_object_init
    (code_tupV (A := A.in1) K hh hok hn fun h' tk acc hk hacc => ⟨⟨_, Heap.get?_push_size _ rfl, rfl⟩, h h' tk acc hk hacc⟩) fun obj s₁ h₁ => ?_
  exact ⟨h₁.1, F.args_object_init_2 obj _, object_init_meets F.called_tuple.init.lookup F.called_tuple.made (by decide) prog w A.in1 _ s₁ ⟨h₁.1, rfl, h₁.2⟩⟩
end
def tTupVals (td : TE) : TE := fun σ H Q => td σ H fun x H1 => ∃ (d : Addr) (o : Obj) (kvs : List (Key × V)), x = .ref d ∧ H1 d = some (.frz o (.dK kvs)) ∧ ∀ q, H1 q = none → Q (.ref q) (upd H1 q (.tup (kvs.map (·.2))))
theorem pe_tupVals {X : Cx} {o : Expr} {p pos apos mpos : Pos} {td : TE} (hc : X.calm = true) (hg : Gl X "tuple") (hm : X.mg "tuple" = none) (hd : PE X o td) (hbase : attributeBase o "values" X.env (eval o X.env) = eval o X.env := by rfl) (hline : (apos.endLine == mpos.line) = true := by rfl)
    (na : starEach [Expr.Call (.Attribute o "values" apos) [] [] mpos] X.env = (false, eval (Expr.Call (.Attribute o "values" apos) [] [] mpos) X.env) :: starEach [] X.env := by rfl) :
    PE X (.Call (.Name "tuple" p) [.Call (.Attribute o "values" apos) [] [] mpos] [] pos) (tTupVals td) := by
  refine ⟨fun pins s σ H Q I h => ?_⟩
  refine Call_ (ld_blt I hg hm boot_tuple (PyProof.Rows.callWith_type1 (args_cons ?_ na) na))
  refine wpAny_Call_method (T := "dict") (id := "dict.values") hbase rfl hline F.plainAttrs_dict F.slot_dict_values F.type_dict_values (thn (hd.run pins s σ H _ I h) fun u s1 ⟨x, H1, I1, rx, d, o, kvs, ex, hd, q⟩ => ?_)
  subst ex
  obtain rfl : u = Value.ref d := rx
  obtain ⟨hs, hgd, hx, es, ep, vs, hdt, hsz, kv, hm⟩ := I1.frzK hd
  have hl : kvs.length = vs.length := Paired.length kv
  refine ⟨hm.dictOf.typeIs, hm.dictOf.mapOf.noDict, ?_⟩
  have k1 : ∀ b u, s1.heap.get? b = some u → (s1.heap.push { cls := .type "dict_values", data := .fields #[.ref d] }).get? b = some u := fun b u e => Heap.get?_push_of_some _ e
  show wpAny _ _ (callWith mpos (.builtin "dict.values") [.ref d] [] []) _ X.xe s1
  refine method_meetsIn F.slot_dict_values F.entry_dict_values rfl (PySem.evalArgs_none ⟨rfl, hm.dictOf.typeIs, F.args_dict_values_1 _, _, meets_dict_values (mixKind X.prog X.w) d hs, ⟨vs, hm.dictOf⟩, args_nil ?_⟩)
  obtain ⟨_, zl, _⟩ := I1.hok d _ hd
  have hz : vs.length ≤ sizeLine := hl ▸ zl
  refine call_tupV (kdl_values (knd := mixKind X.prog X.w) (kvs := vs) (ep := ep)) (I.ok.hd hc) ⟨⟨_, Heap.get?_push_size _ rfl, rfl, rfl⟩, hm.push _⟩ hz fun h' tk acc hk hacc => ?_
  have I2 : Inv X pins σ H1 { s1 with heap := h', toks := tk } := I1.kept (t' := tk) fun b u e => hk b u (k1 b u e)
  have al : acc.toList.length = vs.length := by
    rw [Array.length_toList]
    exact hacc.1
  have vls : Vals (kvs.map (·.2)) acc.toList := vals_get (by rw [List.length_map, hl, al]) fun m x u e1 e2 => by
    obtain ⟨k, hk2⟩ := hacc.2 m u (by rw [← Array.getElem?_toList]; exact e2)
    rw [List.getElem?_map] at e1
    obtain ⟨⟨k', y⟩, h1, h2⟩ := Option.map_eq_some_iff.mp e1
    cases h2
    obtain ⟨u', h3, h4⟩ := kv_get kv h1
    rw [hk2] at h3
    cases h3
    exact h4
  refine ⟨.ref h'.objs.size, _, I2.laid (t' := tk) (o := .tup (kvs.map (·.2))) (fun b o e => Heap.get?_push_of_some _ e) (Nat.le_refl _) ⟨by rw [List.length_map]; exact zl, acc.toList, vls, ?_⟩, rfl, q _ (I2.hok.fresh (Nat.le_refl _))⟩
  have e : acc.toList.toArray = acc := by simp
  rw [e]
  exact IsTup.new _ _
end Zn

set_option Elab.async false
set_option linter.all false
set_option autoImplicit false
set_option maxRecDepth 100000
set_option maxHeartbeats 4000000
/-! Own dicts out of comprehensions, d[k] += y, d.get(k, x), tuple(d.values()), targets within targets. -/
namespace Px
open PySem PySem.Spec PyProof.Rows L2 Lw Zn
/-- d = {k: x for g in it}, d one's own -/
def Xs.setDc (i : Nat) (it : Xi) (g : Xg) (k x : Xe) (vs : List Nat) (hg : ∀ G, OwnG (g.t G) vs) : Xs where
  t G := tAsg (tDc (it.t G) (g.t G) tYes (k.t G) (x.t G) vs) (gName i)
  run a := (it.ev a).bind fun p => if p.1.length ≤ 50000 then (dcA g k x vs p.1 [] (wp p.2 vs)).bind fun r => some (.nx (st r.2 i (some (.dct r.1)))) else none
  ok G a o h p0 e he F I0 I σ H DD E A := by
    obtain ⟨⟨ds, a1⟩, h1, h⟩ := Option.bind_eq_some_iff.mp h
    split at h
    case isFalse => cases h
    rename_i hn
    obtain ⟨⟨kf, af⟩, h2, h⟩ := Option.bind_eq_some_iff.mp h
    cases h
    refine it.ok G a _ _ h1 p0 e he F I0 I σ H E _ fun J I1 H1 GG Y ds' e0 ⟨ed, ha⟩ E1 x1 W hG hY => fun D hD => ?_
    subst ed
    have hn : ds'.length ≤ 50000 := hn
    have hF : F D = none := E1.fh.back hD
    have h0D : I0 D = none := (E1.oi.trans E1.ih).back hD
    have start_ : EnvI G.K (upd F D (.dK [])) I0 I1 (wipe σ vs) (upd H1 D (.dK [])) (wipeE e0 vs) := (E1.guard (o := .dK []) hD).wiped vs
    let Pv : Nat → Hp → Prop := fun j H' => ∃ I' e a2 acc ks, EnvI G.K (upd F D (.dK acc)) I0 I' (wipe σ vs) H' e ∧ Ex I1 I' ∧ acc.map (·.1) = ks.map (·.1) ∧ DqAll G.K I' (acc.map (·.2)) (ks.map (·.2)) ∧ ks.length ≤ j ∧ wipeE e vs = e ∧ Ab p0 e a2 ∧ dcA g k x vs (ds'.drop j) ks a2 = some (kf, af)
    refine ⟨fun j m H' => m = ds'.length - j ∧ j ≤ ds'.length ∧ Pv j H', ⟨ds'.length, by simp, Nat.zero_le _, I1, _, _, [], [], start_, Ex.refl _, rfl, .nil, Nat.le_refl _, wipeE_idem _ _, ha.wp vs, h2⟩, ?_⟩
    rintro j m H' ⟨rfl, hj, I', e2, a2, acc, ks, E', x', hk1, hk2, hkl, hwe, hab, hdc⟩
    have hGH := hG H' (x'.trans E'.ih)
    by_cases hlt : j < ds'.length
    · refine .inr ⟨W.goes j H' hlt hGH, Pv (j + 1), fun H2 p => ⟨ds'.length - (j + 1), by omega, rfl, hlt, p⟩, fun y H3 hy => ?_⟩
      obtain ⟨d, hdj, hx⟩ := hY j H' y H3 I' hlt x' E'.ih (W.yields j H' y H3 hlt hGH hy)
      have hdj' : ds'[j] = d := (List.getElem?_eq_some_iff.mp hdj).2
      rw [List.drop_eq_getElem_cons hlt, hdj', dcA] at hdc
      obtain ⟨a3, g1, hdc⟩ := Option.bind_eq_some_iff.mp hdc
      obtain ⟨⟨kd, a4⟩, g2, hdc⟩ := Option.bind_eq_some_iff.mp hdc
      obtain ⟨⟨vd, a5⟩, g3, hdc⟩ := Option.bind_eq_some_iff.mp hdc
      obtain ⟨kk, g4, hdc4⟩ := Option.bind_eq_some_iff.mp hdc
      have go : ∀ I3, Ex I' I3 → EnvI G.K (upd F D (.dK acc)) I0 I3 (wipe σ vs) H3 e2 → Dq G.K I3 y d → (g.t G) y (wipe σ vs) H3 fun σ2 H2 => wipe σ2 vs = wipe σ vs ∧ tYes σ2 H2 fun b H3 =>
          if b = true then (k.t G) σ2 H3 fun y H4 => (x.t G) σ2 H4 fun z H5 => ∃ kvs k, y = kV k ∧ H5 D = some (.dK kvs) ∧ kvs.length < sizeLine ∧ Pv (j + 1) (upd H5 D (.dK (putK kvs k z))) else Pv (j + 1) H3 := fun I3 x3 E3 hxd => by
        refine hg G (wipe σ vs) y (wipe σ vs) H3 _ (wipe_idem σ vs) (g.ok G _ _ _ g1 p0 e2 hab _ I0 I3 (wipe σ vs) H3 y E3 hxd _ fun σ2 e3 E2 hab3 _ hw2 => ?_)
        dsimp only [tYes]
        rw [if_pos rfl]
        refine k.ok G _ _ _ g2 p0 e3 hab3 _ I0 I3 σ2 H3 E2 _ fun y I4 H4 c e4 E4 x4 hy4 ⟨z1, hab4⟩ => ?_
        subst z1
        refine x.ok G _ _ _ g3 p0 e4 hab4 _ I0 I4 σ2 H4 E4 _ fun z I5 H5 c e5 E5 x5 hz5 ⟨z1, hab5⟩ => ?_
        subst z1
        have hIs : Ex I' I5 := (x3.trans x4).trans x5
        obtain ⟨r1, r2⟩ := put_ok (k := kk) hz5 hk1 (dpA_mono hIs hk2)
        have hlen : acc.length = ks.length := by simpa using congrArg List.length hk1
        refine ⟨acc, kk, keyOf_ok g4 hy4, E5.fh D _ upd_same, Nat.lt_of_lt_of_le (show acc.length < 50000 by omega) (by decide), I5, wipeE e5 vs, _, putK acc kk z, putD ks kk _, ?_, x'.trans hIs, r1, r2, Nat.le_trans (putD_len _ _ _) (by omega), wipeE_idem _ _, hab5.wp vs, hdc4⟩
        have zz := (E5.guardPut (o' := .dK (putK acc kk z)) h0D).wiped vs
        rw [hw2] at zz
        exact zz
      rcases hx with ⟨eH, hxd⟩ | ⟨T, o, hT, eH, hxd⟩
      · subst eH
        exact go I' (Ex.refl _) E' hxd
      · subst eH
        exact go _ (Ex.new (E'.ih.back hT)) (E'.newD hT) hxd
    · have e : j = ds'.length := by omega
      subst e
      refine .inl ⟨W.stops H' hGH, ?_⟩
      rw [List.drop_length, dcA] at hdc
      cases hdc
      obtain ⟨hI, hH, E2, hc⟩ := EnvI.unguardF E' hF h0D
      have E3 := E2.unwiped
      have hc3 : ∀ (l : Nat) (y : Lw.Val), e2[l]? = some (some y) → isCell y = true → σ[l]? ≠ some (some (.ref D)) := fun l y h cy => by
        have z := hc l y h cy
        obtain ⟨v, h1, _⟩ := E2.at_ l y h
        rw [h1] at z
        rw [(wipe_some h1).1]
        exact z
      exact A.nx I' _ _ _ (EnvI.setOwn E3 i hc3 (x := .dct D kf) ⟨rfl, hF, hI, acc, hH, hk1, hk2⟩) ⟨_, rfl, hab.set i (.dct _ _)⟩
/-- d[k] op= y, d one's own -/
def Xs.augD (i : Nat) (p : Xo) (k y : Xe) : Xs where
  t g := sDAug (tVar i) (k.t g) (y.t g) (p.r g)
  run a := match gt a i with
    | some (.dct _) => (k.ev a).bind fun q => match gt q.2 i with
      | some (.dct ks) => (keyOf q.1).bind fun kk => (valD ks kk).bind fun d => (y.ev q.2).bind fun r => match gt r.2 i with
        | some (.dct ks2) => if ks2.length < 100000 then (p.f d r.1).bind fun c => some (.nx (st r.2 i (some (.dct (putD ks2 kk c))))) else none
        | _ => none
      | _ => none
    | _ => none
  ok g a o h p0 e he F I0 I σ H D E A := by
    split at h
    case h_2 => cases h
    rename_i _ ks0 g0
    obtain ⟨⟨kd, a1⟩, h1, h⟩ := Option.bind_eq_some_iff.mp h
    dsimp only at h
    split at h
    case h_2 => cases h
    rename_i _ ks g1
    obtain ⟨kk, h2, h⟩ := Option.bind_eq_some_iff.mp h
    obtain ⟨d, h3, h⟩ := Option.bind_eq_some_iff.mp h
    obtain ⟨⟨yd, a2⟩, h4, h⟩ := Option.bind_eq_some_iff.mp h
    dsimp only at h
    split at h
    case h_2 => cases h
    rename_i _ ks2 g2
    split at h
    case isFalse => cases h
    rename_i hl
    obtain ⟨c, h5, h⟩ := Option.bind_eq_some_iff.mp h
    cases h
    obtain ⟨q0, hq0⟩ := he.dct g0
    obtain ⟨v0, hs0, ev0, _⟩ := E.at_ i _ hq0
    subst ev0
    refine ⟨.ref q0, hs0, k.ok g a _ _ h1 p0 e he F I0 I σ H E _ fun kv I1 H1 kd' e1 E1 x1 hk ⟨ek, ha1⟩ => ?_⟩
    subst ek
    obtain ⟨p1, hp1⟩ := ha1.dct g1
    obtain ⟨v1, hs1, ev1, _, _, ws, hh1, hn1, hd1⟩ := E1.at_ i _ hp1
    subst ev1
    rw [hs0] at hs1
    cases hs1
    have f4 := valD_some (k := kk) hn1 hd1
    rw [h3] at f4
    obtain ⟨u, f5, f6⟩ := f4
    refine ⟨q0, u, rfl, .inl ⟨ws, kk, .inl hh1, keyOf_ok h2 hk, f5.symm⟩, y.ok g a1 _ _ h4 p0 e1 ha1 F I0 I1 σ H1 E1 _ fun yv I2 H2 yd' e2 E2 x2 hy ⟨ey, ha2⟩ => ?_⟩
    subst ey
    obtain ⟨p2, hp2⟩ := ha2.dct g2
    obtain ⟨v2, hs2, ev2, hf2, hi2, ws2, hh2, hn2, hd2⟩ := E2.at_ i _ hp2
    subst ev2
    rw [hs0] at hs2
    cases hs2
    have hlen : ws2.length = ks2.length := by simpa using congrArg List.length hn2
    refine p.ok g _ _ _ h5 I2 H2 u yv E2.ih (dp_mono x2 f6) hy _ (fun z hz => ?_) fun T o hT hz => ?_
    · obtain ⟨r1, r2⟩ := put_ok (k := kk) hz hn2 hd2
      refine ⟨_, .inl ⟨ws2, kk, hh2, keyOf_ok h2 hk, Nat.lt_of_lt_of_le (by rw [hlen]; exact hl) (by decide), rfl⟩, ?_⟩
      exact A.nx I2 σ _ _ (E2.putC (y := .dct q0 (putD ks2 kk c)) hp2 rfl hs0 hi2 hf2 ⟨rfl, hf2, hi2, _, upd_same, r1, r2⟩) ⟨_, rfl, ha2.set i (.dct _ _)⟩
    · have E3 := E2.newD (o := o) hT
      have ne : q0 ≠ T := fun z => by
        rw [z, hT] at hh2
        cases hh2
      obtain ⟨v3, hs3, ev3, hf3, hi3, ws3, hh3, hn3, hd3⟩ := E3.at_ i _ hp2
      subst ev3
      have ew : ws3 = ws2 := by
        rw [upd_ne ne, hh2] at hh3
        cases hh3
        rfl
      subst ew
      obtain ⟨r1, r2⟩ := put_ok (k := kk) hz hn3 hd3
      refine ⟨_, .inl ⟨ws3, kk, hh3, keyOf_ok h2 hk, Nat.lt_of_lt_of_le (by rw [hlen]; exact hl) (by decide), rfl⟩, ?_⟩
      exact A.nx _ σ _ _ (E3.putC (y := .dct q0 (putD ks2 kk c)) hp2 rfl hs0 hi3 hf3 ⟨rfl, hf3, hi3, _, upd_same, r1, r2⟩) ⟨_, rfl, ha2.set i (.dct _ _)⟩
theorem in_of {X : Cx} {op : Operator} {r : R2} (h : OpR X (inplaceOp op) r) : InOp X op r := fun pins s σ H x y u v Q I r1 r2 q => h pins s σ H x y u v Q I r1 r2 q
/-- d.get(y, z) -/
def Xe.getD (x y z : Xe) : Xe where
  t g := tDGet2 (x.t g) (y.t g) (z.t g)
  ev a := (x.ev a).bind fun p => (y.ev p.2).bind fun q => (z.ev q.2).bind fun r => match p.1 with
    | .dict kvs => (ksOf kvs).bind fun ks => (keyOf q.1).bind fun k => some ((valD ks k).getD r.1, r.2)
    | _ => none
  ok g a d a' h p0 e he F I0 I σ H E Q q := by
    obtain ⟨⟨d1, a1⟩, h1, h⟩ := Option.bind_eq_some_iff.mp h
    obtain ⟨⟨d2, a2⟩, h2, h⟩ := Option.bind_eq_some_iff.mp h
    obtain ⟨⟨d3, a3⟩, h3, h⟩ := Option.bind_eq_some_iff.mp h
    dsimp only at h
    split at h
    case h_2 => cases h
    rename_i kvs
    obtain ⟨ks, h4, h⟩ := Option.bind_eq_some_iff.mp h
    obtain ⟨k, h5, h⟩ := Option.bind_eq_some_iff.mp h
    cases h
    refine x.ok g a _ _ h1 p0 e he F I0 I σ H E _ fun v I1 H1 c e1 E1 x1 hv ⟨ez, ha⟩ => ?_
    subst ez
    obtain ⟨b0, od0, ws0, rfl, f1', _, _⟩ := dp_dct hv h4
    refine ⟨b0, rfl, .inl ⟨ws0, .inr ⟨od0, E1.ih _ _ f1'⟩⟩, y.ok g _ _ _ h2 p0 e1 ha F I0 I1 σ H1 E1 _ fun w I2 H2 c e2 E2 x2 hw ⟨ez, ha2⟩ => ?_⟩
    subst ez
    refine z.ok g _ _ _ h3 p0 e2 ha2 F I0 I2 σ H2 E2 _ fun w3 I3 H3 c e3 E3 x3 hw3 ⟨ez, ha3⟩ => ?_
    subst ez
    obtain ⟨b, od, ws, eb, f1, f2, f3⟩ := dp_dct (dp_mono (x2.trans x3) hv) h4
    cases eb
    have f4 := valD_some (k := k) f2 f3
    refine ⟨valV ws k, .inl ⟨ws, k, .inr ⟨od, E3.ih _ _ f1⟩, keyOf_ok h5 hw, rfl⟩, ?_⟩
    cases hz : valD ks k with
    | none =>
      rw [hz] at f4
      rw [show valV ws k = none from f4]
      exact q w3 I3 H3 _ e3 E3 ((x1.trans x2).trans x3) hw3 ⟨by rw [hz]; rfl, ha3⟩
    | some dd =>
      rw [hz] at f4
      obtain ⟨u, f5, f6⟩ := f4
      rw [f5]
      exact q u I3 H3 _ e3 E3 ((x1.trans x2).trans x3) f6 ⟨by rw [hz]; rfl, ha3⟩
/-- tuple(d.values()) -/
def Xe.tupVals (x : Xe) : Xe where
  t g := tTupVals (x.t g)
  ev a := (x.ev a).bind fun p => match p.1 with
    | .dict kvs => (ksOf kvs).bind fun ks => some (.tuple (ks.map (·.2)), p.2)
    | _ => none
  ok g a d a' h p0 e he F I0 I σ H E Q q := by
    obtain ⟨⟨d1, a1⟩, h1, h⟩ := Option.bind_eq_some_iff.mp h
    dsimp only at h
    split at h
    case h_2 => cases h
    rename_i kvs
    obtain ⟨ks, h4, h⟩ := Option.bind_eq_some_iff.mp h
    cases h
    refine x.ok g a _ _ h1 p0 e he F I0 I σ H E _ fun v I1 H1 c e1 E1 x1 hv ⟨ez, ha⟩ => ?_
    subst ez
    obtain ⟨b, od, ws, rfl, f1, f2, f3⟩ := dp_dct hv h4
    refine ⟨b, od, ws, rfl, E1.ih _ _ f1, fun T hT => ?_⟩
    have x2 : Ex I1 (upd I1 T (.tup (ws.map (·.2)))) := Ex.new (E1.ih.back hT)
    exact q _ _ _ _ e1 (E1.newD hT) (x1.trans x2) (.tup (.inl (.inl upd_same)) (dpA_mono x2 f3)) ⟨rfl, ha⟩
/-- targets within targets -/
def gXs (G : Gx) : List Xg → TGs
  | [] => gNil
  | g :: gs => gCons (g.t G) (gXs G gs)
def evXs : List Xg → List PyData → AE → Option AE
  | [], [], a => some a
  | g :: gs, d :: ds, a => (g.ev d a).bind (evXs gs ds)
  | _, _, _ => none
theorem evXs_ok {G : Gx} {p0 : Addr} : ∀ {gs : List Xg} {ds : List PyData} {a a' : AE} {e : Env}, evXs gs ds a = some a' → Ab p0 e a → Tgts G.K (gXs G gs) ds e fun e' => Ab p0 e' a'
  | [], [], a, a', e, h, he => by
    cases h
    exact tgts_nil he
  | g :: gs, d :: ds, a, a', e, h, he => by
    obtain ⟨a1, h1, h2⟩ := Option.bind_eq_some_iff.mp h
    exact tgts_cons (Tgt.imp (g.ok G a d a1 h1 p0 e he) fun e1 he1 => evXs_ok h2 he1)
  | [], _ :: _, _, _, _, h, _ => nomatch h
  | _ :: _, [], _, _, _, h, _ => nomatch h
theorem evXs_len : ∀ {gs : List Xg} {ds : List PyData} {a a' : AE}, evXs gs ds a = some a' → ds.length = gs.length
  | [], [], _, _, _ => rfl
  | g :: gs, d :: ds, a, a', h => by
    obtain ⟨a1, h1, h2⟩ := Option.bind_eq_some_iff.mp h
    exact congrArg (· + 1) (evXs_len h2)
  | [], _ :: _, _, _, h => nomatch h
  | _ :: _, [], _, _, h => nomatch h
def Xg.tupG (gs : List Xg) : Xg where
  t G := gTup G.K gs.length (gXs G gs)
  ev d a := match d with
    | .tuple ds => evXs gs ds a
    | _ => none
  ok G d a a' h p0 e he := by
    split at h
    · exact tgt_tup (evXs_len h) (evXs_ok h he)
    · cases h
end Px

set_option Elab.async false
set_option linter.all false
set_option autoImplicit false
set_option maxRecDepth 100000
set_option maxHeartbeats 8000000
/-! str(x) of data, where nothing is being written out. -/
namespace Px
open PySem PySem.Spec PyProof.Rows L2 Lw
def strD : PyData → Str
  | .str z => z
  | d => d.shown
def strOkB (d : PyData) : Bool := d.canLay0 && d.showable && !d.hasDict && decide (d.depth ≤ 60) && decide (d.shown.length ≤ sizeLine)
theorem strOkB_ok {d : PyData} (h : strOkB d = true) : d.canLay0 = true ∧ d.showable = true ∧ d.hasDict = false ∧ d.depth ≤ 60 ∧ d.shown.length ≤ sizeLine := by
  unfold strOkB at h
  simp only [Bool.and_eq_true, decide_eq_true_eq, Bool.not_eq_true'] at h
  obtain ⟨⟨⟨⟨h1, h2⟩, h3⟩, h4⟩, h5⟩ := h
  exact ⟨h1, h2, h3, h4, h5⟩
def rStrD (K : PySem.W.Frag) : List V → Hp → VK → Prop := fun xs H Q => ∃ x d, xs = [x] ∧ Dq K H x d ∧ strOkB d = true ∧ Q (.str (strD d)) H
theorem call_strD {X : Cx} (hg : X.A.guards = some []) (hu : X.A.units + 64 < cLine) : CallR X (.type "str") (rStrD X.K) := by
  intro pins s σ H xs us Q I r h
  obtain ⟨x, d, rfl, hd, ok, q⟩ := h
  obtain ⟨oc, osh, ond, odp, oln⟩ := strOkB_ok ok
  cases r with
  | cons r0 r2 =>
  cases r2
  rename_i u
  have h2 : ∀ a, u = .ref a → (∀ z, d ≠ .str z) → wpAny (model X.prog X.w) X.A (call (.type "str") [.ref a]) (EP X pins σ Q) X.xe s := fun a e hn => by
    subst e
    obtain ⟨as, rr⟩ := Dp.reads I d x _ (hd.dp oc) r0
    have e2 : strD d = d.shown := by
      unfold strD
      split
      · rename_i z
        exact absurd rfl (hn z)
      · rfl
    rw [e2] at q
    exact str_of_reads rr osh (PyData.noDict_hsm ond) hg (by omega) (fun _ _ e => e) (fun h' u tk hk => ⟨.str _, H, I.kept hk, ⟨_, rfl⟩, q⟩) oln
  cases hd with
  | non =>
    obtain rfl : u = Value.none := r0
    exact P.str_of_none ⟨.str _, H, I.tok _, ⟨_, rfl⟩, q⟩
  | bl b =>
    obtain rfl : u = Value.bool b := r0
    exact P.str_of_bool ⟨.str _, H, I.tok _, ⟨_, rfl⟩, q⟩
  | int i =>
    obtain ⟨t, rfl⟩ := r0
    exact P.str_of_int (by simpa [PyData.showable] using osh) ⟨.str _, H, I.tok _, ⟨_, rfl⟩, q⟩
  | str z =>
    obtain ⟨t, rfl⟩ := r0
    exact P.str_of_str ⟨.str _, H, I, ⟨_, rfl⟩, q⟩
  | lst h1 h3 =>
    obtain rfl : u = Value.ref _ := r0
    exact h2 _ rfl fun z e => by cases e
  | tup h1 h3 =>
    obtain rfl : u = Value.ref _ := r0
    exact h2 _ rfl fun z e => by cases e
  | dct h1 h2 h3 h4 =>
    exact absurd ond (by simp [PyData.hasDict])
/-- str(x) -/
def Xe.strD (x : Xe) : Xe where
  t g := tCB (rStrD g.K) (tCons (x.t g) tNil)
  ev a := (x.ev a).bind fun p => if strOkB p.1 = true then some (.str (Px.strD p.1), p.2) else none
  ok g a d a' h p0 e he F I0 I σ H E Q q := by
    obtain ⟨⟨d1, a1⟩, h1, h⟩ := Option.bind_eq_some_iff.mp h
    dsimp only at h
    split at h
    case isFalse => cases h
    rename_i hok
    cases h
    refine x.ok g a _ _ h1 p0 e he F I0 I σ H E _ fun v I1 H1 c e1 E1 x1 hv ⟨ez, ha⟩ => ?_
    subst ez
    exact ⟨v, _, rfl, dp_mono E1.ih hv, hok, q _ I1 H1 _ e1 E1 x1 (.str _) ⟨rfl, ha⟩⟩
/-- {} as data -/
def Xe.dnil : Xe where
  t _ := tPL tDNewK
  ev a := some (dctD [], a)
  ok g a d a' h p0 e he F I0 I σ H E Q q := by
    cases h
    intro p hp
    refine ⟨p, _, rfl, upd_same, True.intro, fun od => ?_⟩
    have hI : I p = none := E.ih.back hp
    have E1 := E.newC (o := .dK []) hp
    have x2 : Ex I (upd I p (.frz od (.dK []))) := Ex.new hI
    exact q _ _ _ _ e (EnvI.toLocked E1 (o' := .frz od (.dK [])) (E.fh.back hp) hI upd_same (EnvI.noCell E hp)) x2 (.dct upd_same rfl rfl .nil) ⟨rfl, he⟩
end Px

set_option Elab.async false
set_option linter.all false
set_option autoImplicit false
set_option maxRecDepth 100000
set_option maxHeartbeats 8000000
/-! name = {k: v for ..} on one line. -/
namespace Px
open PySem PySem.Spec PyProof.Rows L2 Lw Zn
abbrev Blks {J : Type} (X : Cx) (scope : Scope) (jd : Cx → J → Prop) (j : J) : Prop := ∀ (s : Shared) (H : Hp) (C : Addr) (cl : List (Str × Addr)) (fp : List Addr), jd (X.blk s H scope (compEnvC scope cl C X.env) fp) j
section
variable {X : Cx} {i : Nat} {y : Str} {py pos spos : Pos} {kx vx tg iter : Expr} {ifs : List Expr} {scope : Scope} {own : List (Str × Nat)} {wi : TI} {g : TG} {tt : TT} {tk tv : TE}
/-- the dict stored, whatever its reading behind is -/
theorem setDc_core {Q : VK} {pins : List (Addr × Obj)} {s : Shared} {σ : L2.St} {H : Hp} {D : Ends} (I : Inv X pins σ H s) (hc : X.calm = true) (hN : X.N.Nodup) (hy : X.N[i]? = some y) (hyl : X.env.scope.names.lookup y = some .local)
    (hsw : swapsWith (.DictComp kx vx [⟨tg, iter, ifs, 0⟩] scope pos) (some (.Name y py)) spos.line X.env = pure true) (hi : PI X tg iter wi) (ok : BlkOk X.N X.env.scope scope own)
    (hg : Blks X scope (fun Y z => PG Y z g) tg) (ht : Blks X scope (fun Y z => PTs Y z tt) ifs) (hk : Blks X scope (fun Y z => PE Y z tk) kx) (he : Blks X scope (fun Y z => PE Y z tv) vx) (hs : ∀ x, foldedSetIterable iter X.env x = pure x)
    (h : tDc wi g tt tk tv (own.map (·.2)) σ H Q)
    (fin : ∀ (L : Addr) (s' : Shared) (H' : Hp), Inv X pins σ H' s' → Q (.ref L) H' → ∃ H2, Inv X pins σ H2 s' ∧ (∀ C, H' C = none → H2 C = none) ∧ D.nx (σ.set i (some (.ref L))) H2) :
    wpAny (model X.prog X.w) X.A (exec (.Assign [.Name y py] (.DictComp kx vx [⟨tg, iter, ifs, 0⟩] scope pos) spos) X.env) (SP X pins D) X.xe s := by
  rw [exec_Assign_Name_used _ _ _ _ hsw]
  refine wpAny_bind (wpAny_standAt (wpAny_bind ?_))
  show wpAny _ X.A (do let _ ← comprehension (.DictComp kx vx [⟨tg, iter, ifs, 0⟩] scope pos) scope X.env (firstIterPos [⟨tg, iter, ifs, 0⟩] pos) newDict false (eval iter X.env) (some (assign (.Name y py) X.env))) _ _ s
  refine wpAny_bind (thn (dc_core (Qf := fun _ s' => SP X pins D .next s') hc hN I hi ok hg ht hk he hs h fun L C s' m H' I' q hn f => ?_) fun _ s' hq => wpAny_pure (wpAny_pure hq))
  show wpAny _ _ (assign (.Name y py) X.env (.ref L)) _ _ _
  obtain ⟨H2, I2, hH, q2⟩ := fin L s' H' I' q
  refine wpAny_assign_Name (store_ok2 (v := V.ref L) I2 hN hy (.inl hyl) rfl (fun s2 I3 ⟨a, sb, ha⟩ => ?_) (.inr hyl))
  obtain ⟨f0, f1, f2, f3, f4, f5⟩ := f
  have haC : C ≠ a := by
    rcases ha with z | z
    · rw [z]; exact f1
    · exact fun e => f4 y a z e.symm
  exact ⟨m, hn.sameBut sb haC, fun h3 sb3 => ⟨_, H2, I3.turned (t' := s2.toks) (fun b o hb e => (sb3.2 b hb).trans e) (hH C f0) f1 f3 f4 f5, q2⟩⟩
theorem ps_setDc (hc : X.calm = true) (hN : X.N.Nodup) (hy : X.N[i]? = some y) (hyl : X.env.scope.names.lookup y = some .local)
    (hsw : swapsWith (.DictComp kx vx [⟨tg, iter, ifs, 0⟩] scope pos) (some (.Name y py)) spos.line X.env = pure true) (hi : PI X tg iter wi) (ok : BlkOk X.N X.env.scope scope own)
    (hg : Blks X scope (fun Y z => PG Y z g) tg) (ht : Blks X scope (fun Y z => PTs Y z tt) ifs) (hk : Blks X scope (fun Y z => PE Y z tk) kx) (he : Blks X scope (fun Y z => PE Y z tv) vx) (hs : ∀ x, foldedSetIterable iter X.env x = pure x := by intro _; rfl) :
    PS X (.Assign [.Name y py] (.DictComp kx vx [⟨tg, iter, ifs, 0⟩] scope pos) spos) (tAsg (tDc wi g tt tk tv (own.map (·.2))) (gName i)) :=
  ⟨fun pins s σ H D I h => setDc_core I hc hN hy hyl hsw hi ok hg ht hk he hs h fun L s' H' I' q => ⟨H', I', fun _ z => z, q⟩⟩
theorem ps_setDcL (hc : X.calm = true) (hN : X.N.Nodup) (hy : X.N[i]? = some y) (hyl : X.env.scope.names.lookup y = some .local)
    (hsw : swapsWith (.DictComp kx vx [⟨tg, iter, ifs, 0⟩] scope pos) (some (.Name y py)) spos.line X.env = pure true) (hi : PI X tg iter wi) (ok : BlkOk X.N X.env.scope scope own)
    (hg : Blks X scope (fun Y z => PG Y z g) tg) (ht : Blks X scope (fun Y z => PTs Y z tt) ifs) (hk : Blks X scope (fun Y z => PE Y z tk) kx) (he : Blks X scope (fun Y z => PE Y z tv) vx) (hs : ∀ x, foldedSetIterable iter X.env x = pure x := by intro _; rfl) :
    PS X (.Assign [.Name y py] (.DictComp kx vx [⟨tg, iter, ifs, 0⟩] scope pos) spos) (tAsg (tPL (tDc wi g tt tk tv (own.map (·.2)))) (gName i)) :=
  ⟨fun pins s σ H D I h => setDc_core (Q := fun v H1 => ∃ d u, v = .ref d ∧ H1 d = some u ∧ Mut (some u) ∧ ∀ od, gName i v σ (upd H1 d (.frz od u)) D.nx) I hc hN hy hyl hsw hi ok hg ht hk he hs h fun L s' H' I' ⟨d, u, e, hd, mu, q⟩ => by
    cases e
    obtain ⟨od, I2⟩ := I'.lock hd mu
    refine ⟨_, I2, fun C hC => ?_, q od⟩
    rw [upd_ne fun z => by rw [z, hd] at hC; cases hC]
    exact hC⟩
end
end Px

set_option Elab.async false
set_option linter.all false
set_option autoImplicit false
set_option maxRecDepth 100000
set_option maxHeartbeats 4000000
/-! What the pieces come to, as equations. -/
namespace Px
open PySem PySem.Spec PyProof.Rows L2 Lw
section
variable {a : AE} {x y z : Xe} {xs : Xa} {i : Nat}
@[simp] theorem gt_zero {v : Option AV} {r : AE} : gt (v :: r) 0 = v := rfl
@[simp] theorem gt_succ {v : Option AV} {r : AE} {n : Nat} : gt (v :: r) (n + 1) = gt r n := rfl
@[simp] theorem st_zero {u v : Option AV} {r : AE} : st (v :: r) 0 u = u :: r := rfl
@[simp] theorem st_succ {u v : Option AV} {r : AE} {n : Nat} : st (v :: r) (n + 1) u = v :: st r n u := rfl
@[simp] theorem wp_nil : wp a [] = a := rfl
@[simp] theorem wp_cons {v : Nat} {vs : List Nat} : wp a (v :: vs) = st (wp a vs) v none := rfl
@[simp] theorem fz_nil : fz [] = [] := rfl
@[simp] theorem fz_lst {b : Bool} {ds : List PyData} {r : AE} : fz (some (.lst b ds) :: r) = some (.dat (.list ds)) :: fz r := rfl
@[simp] theorem fz_dat {d : PyData} {r : AE} : fz (some (.dat d) :: r) = some (.dat d) :: fz r := rfl
@[simp] theorem fz_dct {d : List (Key × PyData)} {r : AE} : fz (some (.dct d) :: r) = none :: fz r := rfl
@[simp] theorem fz_seq {d : List Int} {r : AE} : fz (some (.seq d) :: r) = none :: fz r := rfl
@[simp] theorem fz_none {r : AE} : fz (none :: r) = none :: fz r := rfl
@[simp] theorem tl_nil {n : Nat} : tl n [] = List.replicate n none := rfl
@[simp] theorem tl_cons {n : Nat} {d : PyData} {ds : List PyData} : tl n (d :: ds) = some (.dat d) :: tl n ds := rfl
@[simp] theorem ent_no {n : Nat} {ds : List PyData} : ent n .no ds = tl (n - ds.length) ds := rfl
@[simp] theorem ent_own {n : Nat} {bs ds : List PyData} : ent n (.own bs) ds = some (.lst true bs) :: tl (n - (ds.length + 1)) ds := rfl
@[simp] theorem ent_seq {n : Nat} {bs : List Int} {ds : List PyData} : ent n (.seq bs) ds = some (.seq bs) :: tl (n - (ds.length + 1)) ds := rfl
@[simp] theorem argN_no {ds : List PyData} : argN .no ds = ds.length := rfl
@[simp] theorem argN_own {bs ds : List PyData} : argN (.own bs) ds = ds.length + 1 := rfl
@[simp] theorem argN_seq {bs : List Int} {ds : List PyData} : argN (.seq bs) ds = ds.length + 1 := rfl
/-- the end of a body -/
def endO (A : A1) (o : Option Out) : Option (R1 × List PyData) := o.bind (outOf A)
theorem fnOf_eq {m n : Nat} {b : Xs} {A : A1} {ds : List PyData} (h : argN A ds = m) : fnOf m n b A ds = endO A (b.run (ent n A ds)) := if_pos h
@[simp] theorem endO_rt {d : PyData} : endO .no (some (.rt d a)) = some (.dat d, []) := rfl
@[simp] theorem endO_nx : endO .no (some (.nx a)) = some (.dat .none, []) := rfl
@[simp] theorem endO_rf {ds : List PyData} : endO .no (some (.rf ds a)) = some (.fr ds, []) := rfl
@[simp] theorem endO_srt {ns : List Int} {d : PyData} : endO (.seq ns) (some (.rt d a)) = some (.dat d, []) := rfl
@[simp] theorem endO_srf {ns : List Int} {ds : List PyData} : endO (.seq ns) (some (.rf ds a)) = some (.fr ds, []) := rfl
@[simp] theorem endO_ort {bs cs : List PyData} {r : AE} {d : PyData} : endO (.own bs) (some (.rt d (some (.lst true cs) :: r))) = some (.dat d, cs) := rfl
@[simp] theorem endO_onx {bs cs : List PyData} {r : AE} : endO (.own bs) (some (.nx (some (.lst true cs) :: r))) = some (.dat .none, cs) := rfl
/-! expressions -/
@[simp] theorem int_ev {j : Int} : (Xe.int j).ev a = some (.int j, a) := rfl
@[simp] theorem str_ev {j : Str} : (Xe.str j).ev a = some (.str j, a) := rfl
@[simp] theorem bl_ev {j : Bool} : (Xe.bl j).ev a = some (.bool j, a) := rfl
@[simp] theorem non_ev : Xe.non.ev a = some (.none, a) := rfl
@[simp] theorem var_ev : (Xe.var i).ev a = varE a i := rfl
@[simp] theorem varE_zd {d : PyData} {r : AE} : varE (some (.dat d) :: r) 0 = some (d, some (.dat d) :: r) := rfl
theorem varE_dat {d : PyData} (h : gt a i = some (.dat d)) : varE a i = some (d, a) := by unfold varE; rw [h]
theorem varE_lst {b : Bool} {ds : List PyData} (h : gt a i = some (.lst b ds)) : varE a i = some (.list ds, st a i (some (.dat (.list ds)))) := by unfold varE; rw [h]
@[simp] theorem varE_zl {b : Bool} {ds : List PyData} {r : AE} : varE (some (.lst b ds) :: r) 0 = some (.list ds, some (.dat (.list ds)) :: r) := rfl
def consV (v : Option AV) (p : Option (PyData × AE)) : Option (PyData × AE) := p.bind fun q => some (q.1, v :: q.2)
@[simp] theorem consV_some {v : Option AV} {d : PyData} : consV v (some (d, a)) = some (d, v :: a) := rfl
@[simp] theorem varE_s {v : Option AV} {r : AE} {n : Nat} : varE (v :: r) (n + 1) = consV v (varE r n) := by
  unfold varE
  rw [gt_succ]
  split <;> rfl
@[simp] theorem op_ev {o : Xo} : (Xe.op o x y).ev a = (x.ev a).bind fun p => (y.ev p.2).bind fun q => (o.f p.1 q.1).bind fun c => some (c, q.2) := rfl
@[simp] theorem nil_ev : Xa.nil.ev a = some ([], a) := rfl
@[simp] theorem cons_ev : (Xa.cons x xs).ev a = (x.ev a).bind fun p => (xs.ev p.2).bind fun q => some (p.1 :: q.1, q.2) := rfl
@[simp] theorem tup_ev : (Xe.tup xs).ev a = (xs.ev a).bind fun p => if p.1.length ≤ 100000 then some (.tuple p.1, p.2) else none := rfl
@[simp] theorem lst_ev : (Xe.lst xs).ev a = (xs.ev a).bind fun p => if p.1.length ≤ 100000 then some (.list p.1, p.2) else none := rfl
@[simp] theorem cb_ev {b : Xb} : (Xe.cb b xs).ev a = (xs.ev a).bind fun p => (b.f p.1).bind fun c => some (c, p.2) := rfl
def asB : PyData → Option Bool
  | .bool b => some b
  | _ => none
@[simp] theorem asB_b {b : Bool} : asB (.bool b) = some b := rfl
@[simp] theorem andV_ev : (Xe.andV x y).ev a = (x.ev a).bind fun p => (asB p.1).bind fun b => if b = true then y.ev p.2 else some (.bool false, p.2) := by
  show ((x.ev a).bind fun p => _) = _
  congr 1
  funext p
  cases hp : p.1 <;> first | rfl | skip
  rename_i b
  cases b <;> rfl
@[simp] theorem orV_ev : (Xe.orV x y).ev a = (x.ev a).bind fun p => (asB p.1).bind fun b => if b = true then some (.bool true, p.2) else y.ev p.2 := by
  show ((x.ev a).bind fun p => _) = _
  congr 1
  funext p
  cases hp : p.1 <;> first | rfl | skip
  rename_i b
  cases b <;> rfl
@[simp] theorem notV_ev : (Xe.notV x).ev a = (x.ev a).bind fun p => (asB p.1).bind fun b => some (.bool (!b), p.2) := by
  show ((x.ev a).bind fun p => _) = _
  congr 1
  funext p
  cases hp : p.1 <;> rfl
@[simp] theorem of_ev : (Xt.of x).ev a = (x.ev a).bind fun p => (asB p.1).bind fun b => some (b, p.2) := by
  show ((x.ev a).bind fun p => _) = _
  congr 1
  funext p
  cases hp : p.1 <;> rfl
section
variable {s t : Xt}
@[simp] theorem and_ev : (Xt.and s t).ev a = (s.ev a).bind fun p => if p.1 = true then t.ev p.2 else some (false, p.2) := rfl
@[simp] theorem or_ev : (Xt.or s t).ev a = (s.ev a).bind fun p => if p.1 = true then some (true, p.2) else t.ev p.2 := rfl
@[simp] theorem not_ev : (Xt.not s).ev a = (s.ev a).bind fun p => some (!p.1, p.2) := rfl
@[simp] theorem yes_ev : Xt.yes.ev a = some (true, a) := rfl
@[simp] theorem ttmp_ev : (Xt.tmp s).ev a = (s.ev (fz a)).bind fun p => some (p.1, a) := rfl
@[simp] theorem ifE_ev : (Xe.ifE s x y).ev a = (s.ev a).bind fun p => if p.1 = true then x.ev p.2 else y.ev p.2 := rfl
end
@[simp] theorem tmp_ev : (Xe.tmp x).ev a = (x.ev (fz a)).bind fun p => if flatD p.1 = true then some (p.1, a) else none := rfl
@[simp] theorem flat_int {j : Int} : flatD (.int j) = true := rfl
@[simp] theorem flat_str {j : Str} : flatD (.str j) = true := rfl
@[simp] theorem flat_bool {j : Bool} : flatD (.bool j) = true := rfl
@[simp] theorem flat_none : flatD .none = true := rfl
def asL : PyData → Option (List PyData)
  | .list ds => some ds
  | _ => none
def asT : PyData → Option (List PyData)
  | .tuple ds => some ds
  | _ => none
def asI : PyData → Option Int
  | .int i => some i
  | _ => none
def asK : PyData → Option (List (Key × PyData))
  | .dict kvs => ksOf kvs
  | _ => none
@[simp] theorem asL_l {ds : List PyData} : asL (.list ds) = some ds := rfl
@[simp] theorem asT_t {ds : List PyData} : asT (.tuple ds) = some ds := rfl
@[simp] theorem asI_i {j : Int} : asI (.int j) = some j := rfl
@[simp] theorem asK_d {ks : List (Key × PyData)} : asK (dctD ks) = some ks := ksOf_D ks
@[simp] theorem ofF_ev {f : Xf} : (Xe.ofF f).ev a = (f.ev a).bind fun p => some (.list p.1, p.2) := rfl
@[simp] theorem flst_ev : (Xf.lst xs).ev a = (xs.ev a).bind fun p => if p.1.length ≤ 100000 then some p else none := rfl
@[simp] theorem lc_ev {it : Xi} {g : Xg} {c : Xt} {vs : List Nat} {hg : ∀ G, OwnG (g.t G) vs} : (Xf.lc it g c x vs hg).ev a = (it.ev a).bind fun p => if p.1.length ≤ 50000 then lcA g c x vs p.1 (wp p.2 vs) else none := rfl
theorem dc_ev {it : Xi} {g : Xg} {k : Xe} {vs : List Nat} {hg : ∀ G, OwnG (g.t G) vs} : (Xe.dc it g k x vs hg).ev a = (it.ev a).bind fun p => if p.1.length ≤ 50000 then (dcA g k x vs p.1 [] (wp p.2 vs)).bind fun r => some (dctD r.1, r.2) else none := rfl
/-- a call's answer that is data -/
def asD : Option (R1 × List PyData) → Option PyData
  | some (.dat d, _) => some d
  | _ => none
def asF : Option (R1 × List PyData) → Option (List PyData)
  | some (.fr d, _) => some d
  | _ => none
@[simp] theorem asD_d {d : PyData} {bs : List PyData} : asD (some (.dat d, bs)) = some d := rfl
@[simp] theorem asF_f {d bs : List PyData} : asF (some (.fr d, bs)) = some d := rfl
@[simp] theorem call_ev {φ : Fn} : (Xe.call φ xs).ev a = (xs.ev a).bind fun p => (asD (φ .no p.1)).bind fun d => some (d, p.2) := by
  show ((xs.ev a).bind fun p => _) = _
  congr 1
  funext p
  split
  · rename_i h; rw [h]; rfl
  · rename_i h
    match hφ : φ .no p.1 with
    | none => rfl
    | some (.dat d, bs) => exact absurd hφ (h d bs)
    | some (.fr d, bs) => rfl
@[simp] theorem fcall_ev {φ : Fn} : (Xf.call φ xs).ev a = (xs.ev a).bind fun p => (asF (φ .no p.1)).bind fun d => some (d, p.2) := by
  show ((xs.ev a).bind fun p => _) = _
  congr 1
  funext p
  split
  · rename_i h; rw [h]; rfl
  · rename_i h
    match hφ : φ .no p.1 with
    | none => rfl
    | some (.fr d, bs) => exact absurd hφ (h d bs)
    | some (.dat d, bs) => rfl
/-- a call with an own list -/
theorem callM_ev {φ : Fn} {b0 b : Bool} {ds bs bs' : List PyData} {a' : AE} {d : PyData} {as : List PyData} (h0 : gt a i = some (.lst b0 ds)) (h : xs.ev a = some (as, a')) (h1 : gt a' i = some (.lst b bs)) (h2 : φ (.own bs) as = some (.dat d, bs')) :
    (Xe.callM φ i xs).ev a = some (d, st a' i (some (.lst b bs'))) := by
  show (match gt a i with | some (.lst _ _) => _ | _ => _) = _
  rw [h0]
  show ((xs.ev a).bind fun p => _) = _
  rw [h]
  show (match gt a' i with | some (.lst b bs) => _ | _ => _) = _
  rw [h1]
  show (match φ (.own bs) as with | some (.dat d, bs') => _ | _ => _) = _
  rw [h2]
theorem callS_ev {φ : Fn} {ns : List Int} {a' : AE} {d : PyData} {as bs : List PyData} (h0 : gt a i = some (.seq ns)) (h : xs.ev a = some (as, a')) (h2 : φ (.seq ns) as = some (.dat d, bs)) : (Xe.callS φ i xs).ev a = some (d, a') := by
  show (match gt a i with | some (.seq _) => _ | _ => _) = _
  rw [h0]
  show ((xs.ev a).bind fun p => _) = _
  rw [h]
  show (match φ (.seq ns) as with | some (.dat d, _) => _ | _ => _) = _
  rw [h2]
theorem fcallS_ev {φ : Fn} {ns : List Int} {a' : AE} {d : List PyData} {as bs : List PyData} (h0 : gt a i = some (.seq ns)) (h : xs.ev a = some (as, a')) (h2 : φ (.seq ns) as = some (.fr d, bs)) : (Xf.callS φ i xs).ev a = some (d, a') := by
  show (match gt a i with | some (.seq _) => _ | _ => _) = _
  rw [h0]
  show ((xs.ev a).bind fun p => _) = _
  rw [h]
  show (match φ (.seq ns) as with | some (.fr d, _) => _ | _ => _) = _
  rw [h2]
@[simp] theorem isi_ev {T : String} : (Xe.isi x T).ev a = (x.ev a).bind fun p => (isiF p.1 T).bind fun r => some (.bool r, p.2) := rfl
@[simp] theorem bits_ev : (Xe.bits x).ev a = (x.ev a).bind fun p => (asI p.1).bind fun j => some (.int (Builtin.Int.intBits j : Nat), p.2) := by
  show ((x.ev a).bind fun p => _) = _
  congr 1
  funext p
  cases hp : p.1 <;> rfl
@[simp] theorem dget_ev : (Xe.dget x y).ev a = (x.ev a).bind fun p => (y.ev p.2).bind fun q => (asK p.1).bind fun ks => (keyOf q.1).bind fun k => (valD ks k).bind fun d => some (d, q.2) := by
  show ((x.ev a).bind fun p => _) = _
  congr 1
  funext p
  congr 1
  funext q
  cases hp : p.1 <;> rfl
@[simp] theorem din_ev {neg : Bool} : (Xe.din neg y x).ev a = (y.ev a).bind fun q => (x.ev q.2).bind fun p => (asK p.1).bind fun ks => (keyOf q.1).bind fun k => some (.bool (if neg then !(valD ks k).isSome else (valD ks k).isSome), p.2) := by
  show ((y.ev a).bind fun p => _) = _
  congr 1
  funext q
  congr 1
  funext p
  cases hp : p.1 <;> rfl
@[simp] theorem rev_ev : (Xe.rev x).ev a = (x.ev a).bind fun p => (asL p.1).bind fun ds => some (.list ds.reverse, p.2) := by
  show ((x.ev a).bind fun p => _) = _
  congr 1
  funext p
  cases hp : p.1 <;> rfl
@[simp] theorem orT_ev : (Xe.orT x y).ev a = (x.ev a).bind fun p => (truF p.1).bind fun k => if k = true then some p else y.ev p.2 := rfl
@[simp] theorem qnone_lo : Xq.none.lo a = some (none, a) := rfl
@[simp] theorem qsome_lo : (Xq.some x).lo a = (x.ev a).bind fun p => (asI p.1).bind fun j => some (some j, p.2) := by
  show ((x.ev a).bind fun p => _) = _
  congr 1
  funext p
  cases hp : p.1 <;> rfl
@[simp] theorem sl_ev {l : Xl} {lo hi : Xq} : (Xe.sl l x lo hi).ev a = (x.ev a).bind fun p => (lo.lo p.2).bind fun o => (hi.lo o.2).bind fun u => (l.f p.1 o.1 u.1).bind fun c => some (c, u.2) := rfl
@[simp] theorem slL_f {ds : List PyData} {lo hi : Option Int} : slL.f (.list ds) lo hi = some (.list (cutD ds lo hi)) := rfl
@[simp] theorem slT_f {ds : List PyData} {lo hi : Option Int} : slT.f (.tuple ds) lo hi = some (.tuple (cutD ds lo hi)) := rfl
@[simp] theorem lenSeq_ev {ns : List Int} {r : AE} : (Xe.lenSeq 0).ev (some (.seq ns) :: r) = some (.int ns.length, some (.seq ns) :: r) := rfl
theorem ixSeq_ev {ns : List Int} {a' : AE} {j n : Int} (h0 : gt a i = some (.seq ns)) (h : x.ev a = some (.int j, a')) (h2 : atI ns j = some n) : (Xe.ixSeq i x).ev a = some (.int n, a') := by
  show (match gt a i with | some (.seq ns) => _ | _ => _) = _
  rw [h0]
  show ((x.ev a).bind fun p => _) = _
  rw [h]
  show ((atI ns j).bind fun n => _) = _
  rw [h2]
  rfl
@[simp] theorem neg_ev : (Xe.neg x).ev a = (x.ev a).bind fun p => (asI p.1).bind fun j => some (.int (-j), p.2) := by
  show ((x.ev a).bind fun p => _) = _
  congr 1
  funext p
  cases hp : p.1 <;> rfl
theorem varD_ev {ks : List (Key × PyData)} (h : gt a i = some (.dct ks)) : (Xe.varD i).ev a = some (dctD ks, st a i (some (.dat (dctD ks)))) := by
  show (match gt a i with | some (.dct ks) => _ | _ => _) = _
  rw [h]
/-! operators -/
@[simp] theorem add_f {i j : Int} : oAdd.f (.int i) (.int j) = some (.int (i + j)) := rfl
@[simp] theorem sub_f {i j : Int} : oSub.f (.int i) (.int j) = some (.int (i - j)) := rfl
@[simp] theorem and_f {i j : Int} : oAnd.f (.int i) (.int j) = some (.int (Builtin.bitAnd i j)) := rfl
@[simp] theorem or_f {i j : Int} : oOr.f (.int i) (.int j) = some (.int (Builtin.bitOr i j)) := rfl
@[simp] theorem lt_f {i j : Int} : oLt.f (.int i) (.int j) = some (.bool (decide (i < j))) := rfl
@[simp] theorem le_f {i j : Int} : oLe.f (.int i) (.int j) = some (.bool (decide (i ≤ j))) := rfl
@[simp] theorem gt_f {i j : Int} : oGt.f (.int i) (.int j) = some (.bool (decide (j < i))) := rfl
@[simp] theorem ge_f {i j : Int} : oGe.f (.int i) (.int j) = some (.bool (decide (j ≤ i))) := rfl
theorem mul_f {i j : Int} (h : -(2 ^ 64) < i ∧ i < 2 ^ 64) : oMul.f (.int i) (.int j) = some (.int (i * j)) := if_pos (decide_eq_true h)
theorem mod_f {i j : Int} (h : 0 < j) : oMod.f (.int i) (.int j) = some (.int (i % j)) := if_pos (decide_eq_true h)
theorem div_f {i j : Int} (h : 0 < j ∧ j.natAbs.log2 < 9000) : oDiv.f (.int i) (.int j) = some (.int (i / j)) := if_pos (decide_eq_true h)
theorem shl_f {i j : Int} (h : 0 ≤ j ∧ j ≤ 1000000 ∧ i.natAbs < 2 ^ 64) : oShl.f (.int i) (.int j) = some (.int (i * 2 ^ j.toNat)) := if_pos (decide_eq_true h)
theorem shr_f {i j : Int} (h : 0 ≤ j) : oShr.f (.int i) (.int j) = some (.int (i / 2 ^ j.toNat)) := if_pos (decide_eq_true h)
@[simp] theorem eq_f {i j : PyData} : oEq.f i j = (flatQ i j).bind fun q => some (.bool q) := rfl
@[simp] theorem ne_f {i j : PyData} : oNe.f i j = (flatQ i j).bind fun q => some (.bool (!q)) := rfl
@[simp] theorem flatQ_i {i j : Int} : flatQ (.int i) (.int j) = some (decide (i = j)) := rfl
@[simp] theorem flatQ_s {i j : Str} : flatQ (.str i) (.str j) = some (decide (i = j)) := rfl
@[simp] theorem flatQ_b {i j : Bool} : flatQ (.bool i) (.bool j) = some (decide (i = j)) := rfl
theorem eqD_f {i j : PyData} (h1 : SeqAt.shaped i = true) (h2 : SeqAt.shaped j = true) : oEqD.f i j = some (.bool (PyData.eqv i j)) := if_pos (by rw [h1, h2]; rfl)
theorem neD_f {i j : PyData} (h1 : SeqAt.shaped i = true) (h2 : SeqAt.shaped j = true) : oNeD.f i j = some (.bool (!PyData.eqv i j)) := if_pos (by rw [h1, h2]; rfl)
@[simp] theorem isN_f {i : PyData} : oIsN.f i .none = some (.bool (isNoneD i)) := rfl
@[simp] theorem notN_f {i : PyData} : oNotN.f i .none = some (.bool (!isNoneD i)) := rfl
@[simp] theorem ix_list {ds : List PyData} {j : Int} : oIx.f (.list ds) (.int j) = atI ds j := rfl
@[simp] theorem ix_tuple {ds : List PyData} {j : Int} : oIx.f (.tuple ds) (.int j) = atI ds j := rfl
theorem cat_f {ds es : List PyData} (h : ds.length + es.length ≤ 100000) : oCat.f (.list ds) (.list es) = some (.list (ds ++ es)) := if_pos h
theorem catT_f {ds es : List PyData} (h : ds.length + es.length ≤ 100000) : oCatT.f (.tuple ds) (.tuple es) = some (.tuple (ds ++ es)) := if_pos h
theorem addS_f {z u : Str} (h : z.length + u.length ≤ 100000) : oAddS.f (.str z) (.str u) = some (.str (z ++ u)) := if_pos h
theorem in_f {neg : Bool} {d : PyData} {ds : List PyData} (h1 : flatD d = true) (h2 : ds.all flatD = true) : (oIn neg).f d (.list ds) = some (.bool (if neg then !inQ d ds else inQ d ds)) := if_pos (by rw [h1, h2]; rfl)
theorem inT_f {neg : Bool} {d : PyData} {ds : List PyData} (h1 : flatD d = true) (h2 : ds.all flatD = true) : (oIn neg).f d (.tuple ds) = some (.bool (if neg then !inQ d ds else inQ d ds)) := if_pos (by rw [h1, h2]; rfl)
/-! built-ins -/
@[simp] theorem len_f {ds : List PyData} : bLen.f [.list ds] = some (.int ds.length) := rfl
@[simp] theorem lenT_f {ds : List PyData} : bLen.f [.tuple ds] = some (.int ds.length) := rfl
@[simp] theorem tup_f {ds : List PyData} : bTup.f [.list ds] = some (.tuple ds) := rfl
@[simp] theorem tupT_f {ds : List PyData} : bTup.f [.tuple ds] = some (.tuple ds) := rfl
@[simp] theorem lst_f {ds : List PyData} : bLst.f [.list ds] = some (.list ds) := rfl
@[simp] theorem lstT_f {ds : List PyData} : bLst.f [.tuple ds] = some (.list ds) := rfl
theorem all_f {bs : List Bool} : bAll.f [.list (bs.map .bool)] = some (.bool (bs.all id)) := by
  have h : boolsOf (bs.map .bool) = some bs := by
    induction bs with
    | nil => rfl
    | cons b bs ih =>
      show ((boolsOf (bs.map .bool)).bind fun bs => some (b :: bs)) = _
      rw [ih]
      rfl
  show ((boolsOf (bs.map .bool)).bind fun bs => some (PyData.bool (bs.all id))) = _
  rw [h]
  rfl
@[simp] theorem max_f {i j : Int} : bMax.f [.int i, .int j] = some (.int (if j > i then j else i)) := rfl
@[simp] theorem min_f {i j : Int} : bMin.f [.int i, .int j] = some (.int (if j < i then j else i)) := rfl
@[simp] theorem int_f {p : Bool} : bInt.f [.bool p] = some (.int (if p then 1 else 0)) := rfl
theorem str_f {i : Int} (h : i.natAbs.log2 < 1920) : bStrI.f [.int i] = some (.str (toString i)) := if_pos h
/-! what is walked, targets -/
@[simp] theorem itList_ev : (itList x).ev a = (x.ev a).bind fun p => (asL p.1).bind fun ds => some (ds, p.2) := by
  show ((x.ev a).bind fun p => _) = _
  congr 1
  funext p
  cases hp : p.1 <;> rfl
@[simp] theorem itTup_ev : (itTup x).ev a = (x.ev a).bind fun p => (asT p.1).bind fun ds => some (ds, p.2) := by
  show ((x.ev a).bind fun p => _) = _
  congr 1
  funext p
  cases hp : p.1 <;> rfl
@[simp] theorem itEnumT_ev : (itEnumT x).ev a = (x.ev a).bind fun p => (asT p.1).bind fun ds => some (pairsD 0 ds, p.2) := by
  show ((x.ev a).bind fun p => _) = _
  congr 1
  funext p
  cases hp : p.1 <;> rfl
@[simp] theorem itRng1_ev : (itRng1 x).ev a = (x.ev a).bind fun p => (asI p.1).bind fun n => if n ≤ 100000 ∧ -100000 ≤ n then some (intsD 0 n.toNat, p.2) else none := by
  show ((x.ev a).bind fun p => _) = _
  congr 1
  funext p
  cases hp : p.1 <;> rfl
@[simp] theorem itVals_ev : (itVals x).ev a = (x.ev a).bind fun p => (asK p.1).bind fun ks => some (ks.map (·.2), p.2) := by
  show ((x.ev a).bind fun p => _) = _
  congr 1
  funext p
  cases hp : p.1 <;> rfl
@[simp] theorem name_ev {d : PyData} : (Xg.name i).ev d a = some (st a i (some (.dat d))) := rfl
@[simp] theorem gtup_ev {is : List Nat} {ds : List PyData} : (Xg.tup is).ev (.tuple ds) a = stN a is ds := rfl
@[simp] theorem glst_ev {is : List Nat} {ds : List PyData} : (Xg.lst is).ev (.list ds) a = stN a is ds := rfl
@[simp] theorem stN_nil : stN a [] [] = some a := rfl
@[simp] theorem stN_cons {is : List Nat} {d : PyData} {ds : List PyData} : stN a (i :: is) (d :: ds) = stN (st a i (some (.dat d))) is ds := rfl
/-! statements -/
def seqK (f : AE → Option Out) : Out → Option Out
  | .nx a => f a
  | .rt d a => some (.rt d a)
  | .rf d a => some (.rf d a)
  | .bk a => some (.bk a)
  | .ct a => some (.ct a)
section
variable {f : AE → Option Out} {d : PyData} {ds : List PyData} {s t : Xs} {o : Option Out}
@[simp] theorem seqK_nx : seqK f (.nx a) = f a := rfl
@[simp] theorem seqK_rt : seqK f (.rt d a) = some (.rt d a) := rfl
@[simp] theorem seqK_rf : seqK f (.rf ds a) = some (.rf ds a) := rfl
@[simp] theorem seqK_bk : seqK f (.bk a) = some (.bk a) := rfl
@[simp] theorem seqK_ct : seqK f (.ct a) = some (.ct a) := rfl
@[simp] theorem seq_run : (Xs.seq s t).run a = (s.run a).bind (seqK t.run) := by
  show ((s.run a).bind fun o => _) = _
  congr 1
  funext o
  cases o <;> rfl
@[simp] theorem next_run : Xs.next.run a = some (.nx a) := rfl
@[simp] theorem set_run : (Xs.set i x).run a = (x.ev a).bind fun p => some (.nx (st p.2 i (some (.dat p.1)))) := rfl
@[simp] theorem setF_run {f : Xf} : (Xs.setF i f).run a = (f.ev a).bind fun p => some (.nx (st p.2 i (some (.lst false p.1)))) := rfl
@[simp] theorem asg_run {g : Xg} : (Xs.asg g x).run a = (x.ev a).bind fun p => (g.ev p.1 p.2).bind fun a' => some (.nx a') := rfl
@[simp] theorem ret_run : (Xs.ret x).run a = (x.ev a).bind fun p => some (.rt p.1 p.2) := rfl
@[simp] theorem retF_run {f : Xf} : (Xs.retF f).run a = (f.ev a).bind fun p => some (.rf p.1 p.2) := rfl
@[simp] theorem ifS_run {c : Xt} : (Xs.ifS c s t).run a = (c.ev a).bind fun p => if p.1 = true then s.run p.2 else t.run p.2 := rfl
@[simp] theorem drop_run : (Xs.drop x).run a = (x.ev a).bind fun p => some (.nx p.2) := rfl
@[simp] theorem newK_run : (Xs.newK i).run a = some (.nx (st a i (some (.dct [])))) := rfl
@[simp] theorem par2F_run {j : Nat} {f g : Xf} : (Xs.par2F i j f g).run a = (f.ev a).bind fun p => (g.ev p.2).bind fun q => some (.nx (st (st q.2 i (some (.lst false p.1))) j (some (.lst false q.1)))) := rfl
theorem aug_run {p : Xo} {b : PyData} (h : gt a i = some (.dat b)) : (Xs.aug i p x).run a = (x.ev a).bind fun q => (p.f b q.1).bind fun c => some (.nx (st q.2 i (some (.dat c)))) := by
  show (match gt a i with | some (.dat b) => _ | _ => _) = _
  rw [h]
theorem app_run {b0 b : Bool} {ds0 es : List PyData} {a' : AE} (h0 : gt a i = some (.lst b0 ds0)) (h : x.ev a = some (d, a')) (h1 : gt a' i = some (.lst b es)) (hl : es.length < 100000) : (Xs.app i x).run a = some (.nx (st a' i (some (.lst b (es ++ [d]))))) := by
  show (match gt a i with | some (.lst _ _) => _ | _ => _) = _
  rw [h0]
  show ((x.ev a).bind fun p => _) = _
  rw [h]
  show (match gt a' i with | some (.lst b ds) => _ | _ => _) = _
  rw [h1]
  exact if_pos hl
theorem setI_run {k : Xe} {b0 b : Bool} {ds0 es : List PyData} {a1 a2 : AE} {j : Nat} (h : x.ev a = some (d, a1)) (h0 : gt a1 i = some (.lst b0 ds0)) (hk : k.ev a1 = some (.int j, a2)) (h1 : gt a2 i = some (.lst b es)) (hj : j < es.length) : (Xs.setI i k x).run a = some (.nx (st a2 i (some (.lst b (es.set j d))))) := by
  show ((x.ev a).bind fun p => _) = _
  rw [h]
  show ((k.ev a1).bind fun p => _) = _
  rw [hk]
  show (match gt a1 i, gt a2 i, PyData.int j with | some (.lst _ _), some (.lst b ds), .int j => _ | _, _, _ => _) = _
  rw [h0, h1]
  exact if_pos ⟨Int.natCast_nonneg j, hj⟩
theorem dput_run {k : Xe} {ks0 ks : List (Key × PyData)} {a1 a2 : AE} {kd : PyData} {kk : Key} (h : x.ev a = some (d, a1)) (h0 : gt a1 i = some (.dct ks0)) (hk : k.ev a1 = some (kd, a2)) (h1 : gt a2 i = some (.dct ks)) (hq : keyOf kd = some kk) (hl : ks.length < 100000) : (Xs.dput i k x).run a = some (.nx (st a2 i (some (.dct (putD ks kk d))))) := by
  show ((x.ev a).bind fun p => _) = _
  rw [h]
  show ((k.ev a1).bind fun p => _) = _
  rw [hk]
  show (match gt a1 i, gt a2 i with | some (.dct _), some (.dct ks) => _ | _, _ => _) = _
  rw [h0, h1]
  show ((keyOf kd).bind fun kk => _) = _
  rw [hq]
  exact if_pos hl
@[simp] theorem forS_run {it : Xi} {g : Xg} {w : List Nat} : (Xs.forS it g s w).run a = (it.ev a).bind fun p => forA g s w p.1 (wp p.2 w) := rfl
@[simp] theorem whileS_run {n : Nat} {c : Xt} {w : List Nat} : (Xs.whileS n c s w).run a = whA c s w n (wp a w) := rfl
/-- a turn of a loop -/
def turnK (f : AE → Option Out) : Out → Option Out
  | .nx a => f a
  | .ct a => f a
  | .bk a => some (.nx a)
  | .rt d a => some (.rt d a)
  | .rf d a => some (.rf d a)
@[simp] theorem turnK_nx : turnK f (.nx a) = f a := rfl
@[simp] theorem turnK_ct : turnK f (.ct a) = f a := rfl
@[simp] theorem turnK_bk : turnK f (.bk a) = some (.nx a) := rfl
@[simp] theorem turnK_rt : turnK f (.rt d a) = some (.rt d a) := rfl
@[simp] theorem turnK_rf : turnK f (.rf ds a) = some (.rf ds a) := rfl
@[simp] theorem for_nil {g : Xg} {w : List Nat} : forA g s w [] a = some (.nx a) := rfl
theorem for_cons {g : Xg} {w : List Nat} : forA g s w (d :: ds) a = (g.ev d a).bind fun a1 => (s.run a1).bind (turnK fun a2 => forA g s w ds (wp a2 w)) := by
  show ((g.ev d a).bind fun a1 => _) = _
  congr 1
theorem wh_succ {c : Xt} {w : List Nat} {n : Nat} : whA c s w (n + 1) a = (c.ev a).bind fun p => if p.1 = true then (s.run p.2).bind (turnK fun a2 => whA c s w n (wp a2 w)) else some (.nx p.2) := by
  show ((c.ev a).bind fun a1 => _) = _
  congr 1
@[simp] theorem lcA_nil {g : Xg} {c : Xt} {vs : List Nat} : lcA g c x vs [] a = some ([], a) := rfl
theorem lcA_cons {g : Xg} {c : Xt} {vs : List Nat} : lcA g c x vs (d :: ds) a = (g.ev d a).bind fun a1 => (c.ev a1).bind fun p => if p.1 = true then (x.ev p.2).bind fun q => (lcA g c x vs ds (wp q.2 vs)).bind fun r => some (q.1 :: r.1, r.2) else lcA g c x vs ds (wp p.2 vs) := rfl
/-- a comprehension whose parts change nothing -/
theorem lcA_pure {g : Xg} {c : Xt} {vs : List Nat} (f : PyData → Bool) (v : PyData → PyData) : ∀ {ds : List PyData}, (∀ d ∈ ds, ∃ a1, g.ev d a = some a1 ∧ wp a1 vs = a ∧ c.ev a1 = some (f d, a1) ∧ (f d = true → x.ev a1 = some (v d, a1))) → lcA g c x vs ds a = some ((ds.filter f).map v, a)
  | [], _ => rfl
  | d :: ds, h => by
    obtain ⟨a1, h1, h2, h3, h4⟩ := h d List.mem_cons_self
    have ih := lcA_pure (g := g) (c := c) (vs := vs) f v (ds := ds) fun d hd => h d (List.mem_cons_of_mem _ hd)
    rw [lcA_cons, h1, Option.bind_some, h3, Option.bind_some]
    by_cases hf : f d = true
    · rw [if_pos hf, h4 hf, Option.bind_some, h2, ih, Option.bind_some, List.filter_cons_of_pos hf]
      rfl
    · rw [if_neg hf, h2, ih, List.filter_cons_of_neg hf]
theorem lcA_map {g : Xg} {vs : List Nat} (v : PyData → PyData) {ds : List PyData} (h : ∀ d ∈ ds, ∃ a1, g.ev d a = some a1 ∧ wp a1 vs = a ∧ x.ev a1 = some (v d, a1)) : lcA g Xt.yes x vs ds a = some (ds.map v, a) := by
  have := lcA_pure (a := a) (g := g) (c := Xt.yes) (x := x) (vs := vs) (fun _ => true) v (ds := ds) fun d hd => by
    obtain ⟨a1, h1, h2, h3⟩ := h d hd
    exact ⟨a1, h1, h2, rfl, fun _ => h3⟩
  rw [this, List.filter_eq_self.mpr fun _ _ => rfl]
end
end
end Px

set_option Elab.async false
set_option linter.all false
set_option autoImplicit false
set_option maxRecDepth 100000
set_option maxHeartbeats 4000000
/-! k in d, d one's own; what the new bundles come to. -/
namespace Px
open PySem PySem.Spec PyProof.Rows L2 Lw Zn
/-- k in d, k not in d, d one's own -/
def Xe.dinO (neg : Bool) (y : Xe) (i : Nat) : Xe where
  t g := if neg then tDNotIn (y.t g) (tVar i) else tDIn (y.t g) (tVar i)
  ev a := (y.ev a).bind fun q => match gt q.2 i with
    | some (.dct ks) => (keyOf q.1).bind fun k => some (.bool (if neg then !(valD ks k).isSome else (valD ks k).isSome), q.2)
    | _ => none
  ok g a d a' h p0 e he F I0 I σ H E Q q := by
    obtain ⟨⟨d1, a1⟩, h1, h⟩ := Option.bind_eq_some_iff.mp h
    dsimp only at h
    split at h
    case h_2 => cases h
    rename_i _ ks g1
    obtain ⟨k, h4, h⟩ := Option.bind_eq_some_iff.mp h
    cases h
    have go : ∀ (v w : V) (I1 H1 : Hp) (e1 : Env), EnvI g.K F I0 I1 σ H1 e1 → Ex I I1 → Dq g.K I1 w d1 → Ab p0 e1 a' → σ[i]? = some (some v) → ∃ b o, v = .ref b ∧ DGet H1 b w o ∧ Q (.bl (if neg = true then !o.isSome else o.isSome)) H1 := fun v w I1 H1 e1 E1 x1 hw ha hv => by
      obtain ⟨p1, hp1⟩ := ha.dct g1
      obtain ⟨v1, hs1, ev1, _, _, ws, hh1, hn1, hd1⟩ := E1.at_ i _ hp1
      subst ev1
      rw [hv] at hs1
      cases hs1
      have f4 := valD_some (k := k) hn1 hd1
      refine ⟨p1, valV ws k, rfl, .inl ⟨ws, k, .inl hh1, keyOf_ok h4 hw, rfl⟩, ?_⟩
      have e : (valV ws k).isSome = (valD ks k).isSome := by
        cases z : valD ks k with
        | none => rw [z] at f4; rw [show valV ws k = none from f4]; rfl
        | some dd =>
          rw [z] at f4
          obtain ⟨u, f5, _⟩ := f4
          rw [f5]; rfl
      rw [e]
      exact q _ I1 H1 _ e1 E1 x1 (.bl _) ⟨rfl, ha⟩
    have fin : ∀ (w : V) (I1 H1 : Hp) (e1 : Env), EnvI g.K F I0 I1 σ H1 e1 → Ab p0 e1 a' → ∃ v, σ[i]? = some (some v) := fun w I1 H1 e1 E1 ha => by
      obtain ⟨p1, hp1⟩ := ha.dct g1
      obtain ⟨v1, hs1, _⟩ := E1.at_ i _ hp1
      exact ⟨v1, hs1⟩
    cases neg with
    | true =>
      refine y.ok g _ _ _ h1 p0 e he F I0 I σ H E _ fun w I1 H1 z e1 E1 x1 hw ⟨ez, ha⟩ => ?_
      subst ez
      obtain ⟨v, hv⟩ := fin w I1 H1 e1 E1 ha
      obtain ⟨b, o, r1, r2, r3⟩ := go v w I1 H1 e1 E1 x1 hw ha hv
      exact ⟨v, hv, b, o, r1, r2, r3⟩
    | false =>
      refine y.ok g _ _ _ h1 p0 e he F I0 I σ H E _ fun w I1 H1 z e1 E1 x1 hw ⟨ez, ha⟩ => ?_
      subst ez
      obtain ⟨v, hv⟩ := fin w I1 H1 e1 E1 ha
      obtain ⟨b, o, r1, r2, r3⟩ := go v w I1 H1 e1 E1 x1 hw ha hv
      exact ⟨v, hv, b, o, r1, r2, r3⟩
section
variable {a : AE} {i : Nat} {x y z : Xe} {xs : Xa}
def asS : PyData → Option (List PyData) := seqD
@[simp] theorem seqD_l {ds : List PyData} : seqD (.list ds) = some ds := rfl
@[simp] theorem seqD_t {ds : List PyData} : seqD (.tuple ds) = some ds := rfl
@[simp] theorem allSeq_nil : allSeq [] = some [] := rfl
@[simp] theorem allSeq_cons {d : PyData} {r : List PyData} : allSeq (d :: r) = (seqD d).bind fun ds => (allSeq r).bind fun dss => some (ds :: dss) := rfl
@[simp] theorem itZip_ev {k : Nat} {hk : k ≠ 0} : (itZip k hk xs).ev a = (xs.ev a).bind fun p => if p.1.length = k then (allSeq p.1).bind fun dss => some (zipD dss, p.2) else none := rfl
@[simp] theorem getD_ev : (Xe.getD x y z).ev a = (x.ev a).bind fun p => (y.ev p.2).bind fun q => (z.ev q.2).bind fun r => (asK p.1).bind fun ks => (keyOf q.1).bind fun k => some ((valD ks k).getD r.1, r.2) := by
  show ((x.ev a).bind fun p => _) = _
  congr 1
  funext p
  congr 1
  funext q
  congr 1
  funext r
  cases hp : p.1 <;> rfl
@[simp] theorem dnil_ev : Xe.dnil.ev a = some (dctD [], a) := rfl
@[simp] theorem tupVals_ev : (Xe.tupVals x).ev a = (x.ev a).bind fun p => (asK p.1).bind fun ks => some (.tuple (ks.map (·.2)), p.2) := by
  show ((x.ev a).bind fun p => _) = _
  congr 1
  funext p
  cases hp : p.1 <;> rfl
@[simp] theorem strD_ev : (Xe.strD x).ev a = (x.ev a).bind fun p => if strOkB p.1 = true then some (.str (Px.strD p.1), p.2) else none := rfl
@[simp] theorem tupG_ev {gs : List Xg} {ds : List PyData} : (Xg.tupG gs).ev (.tuple ds) a = evXs gs ds a := rfl
@[simp] theorem evXs_nil : evXs [] [] a = some a := rfl
@[simp] theorem evXs_cons {g : Xg} {gs : List Xg} {d : PyData} {ds : List PyData} : evXs (g :: gs) (d :: ds) a = (g.ev d a).bind (evXs gs ds) := rfl
@[simp] theorem setDc_run {it : Xi} {g : Xg} {k : Xe} {vs : List Nat} {hg : ∀ G, OwnG (g.t G) vs} : (Xs.setDc i it g k x vs hg).run a = (it.ev a).bind fun p => if p.1.length ≤ 50000 then (dcA g k x vs p.1 [] (wp p.2 vs)).bind fun r => some (.nx (st r.2 i (some (.dct r.1)))) else none := rfl
theorem dcA_cons {g : Xg} {k : Xe} {vs : List Nat} {d : PyData} {ds : List PyData} {acc : List (Key × PyData)} : dcA g k x vs (d :: ds) acc a = (g.ev d a).bind fun a1 => (k.ev a1).bind fun p => (x.ev p.2).bind fun q => (keyOf p.1).bind fun kk => dcA g k x vs ds (putD acc kk q.1) (wp q.2 vs) := rfl
@[simp] theorem dcA_nil {g : Xg} {k : Xe} {vs : List Nat} {acc : List (Key × PyData)} : dcA g k x vs [] acc a = some (acc, a) := rfl
theorem dinO_ev {neg : Bool} {ks : List (Key × PyData)} {kd : PyData} {kk : Key} {a' : AE} (h : y.ev a = some (kd, a')) (hg : gt a' i = some (.dct ks)) (hk : keyOf kd = some kk) : (Xe.dinO neg y i).ev a = some (.bool (if neg then !(valD ks kk).isSome else (valD ks kk).isSome), a') := by
  show ((y.ev a).bind fun q => _) = _
  rw [h]
  show (match gt a' i with | some (.dct ks) => _ | _ => _) = _
  rw [hg]
  show ((keyOf kd).bind fun k => _) = _
  rw [hk]
  rfl
theorem augD_run {p : Xo} {k : Xe} {ks : List (Key × PyData)} {kd d yd c : PyData} {kk : Key} (h0 : gt a i = some (.dct ks)) (hk : k.ev a = some (kd, a)) (hq : keyOf kd = some kk) (hd : valD ks kk = some d) (hy : y.ev a = some (yd, a)) (hl : ks.length < 100000) (hc : p.f d yd = some c) :
    (Xs.augD i p k y).run a = some (.nx (st a i (some (.dct (putD ks kk c))))) := by
  show (match gt a i with | some (.dct _) => _ | _ => _) = _
  rw [h0]
  show ((k.ev a).bind fun q => _) = _
  rw [hk]
  show (match gt a i with | some (.dct ks) => _ | _ => _) = _
  rw [h0]
  show ((keyOf kd).bind fun kk => _) = _
  rw [hq]
  show ((valD ks kk).bind fun d => _) = _
  rw [hd]
  show ((y.ev a).bind fun r => _) = _
  rw [hy]
  show (match gt a i with | some (.dct ks2) => _ | _ => _) = _
  rw [h0]
  show (if ks.length < 100000 then _ else _) = _
  rw [if_pos hl, hc]
  rfl
end
/-! parts that may raise -/
def seqX (f : AE → Option OutX) : OutX → Option OutX
  | .o (.nx a) => f a
  | .o x => some (.o x)
  | .ex r a => some (.ex r a)
section
variable {a : AE} {f : AE → Option OutX} {x y : Ys} {xs : Xa} {r : ExR} {d : PyData} {ds : List PyData}
@[simp] theorem seqX_nx : seqX f (.o (.nx a)) = f a := rfl
@[simp] theorem seqX_rt : seqX f (.o (.rt d a)) = some (.o (.rt d a)) := rfl
@[simp] theorem seqX_ex : seqX f (.ex r a) = some (.ex r a) := rfl
@[simp] theorem yof_run {s : Xs} : (Ys.of s).run a = (s.run a).bind fun o => some (.o o) := rfl
@[simp] theorem yseq_run : (Ys.seq x y).run a = (x.run a).bind (seqX y.run) := by
  show ((x.run a).bind fun o => _) = _
  congr 1
  funext o
  cases o with
  | ex r a => rfl
  | o z => cases z <;> rfl
@[simp] theorem yif_run {c : Xt} : (Ys.ifS c x y).run a = (c.ev a).bind fun p => if p.1 = true then x.run p.2 else y.run p.2 := rfl
@[simp] theorem yraise_run {z : Str} {ns : List Str} : (Ys.raiseI z ns xs).run a = (xs.ev a).bind fun p => if p.1.length = ns.length ∧ ns.length ≤ 1000 then some (.ex (z, (ns.zip p.1).reverse) p.2) else none := rfl
def dropK (a : AE) : RX → Option OutX
  | .ok _ => some (.o (.nx a))
  | .ex r => some (.ex r a)
@[simp] theorem dropK_ok {r : R1} : dropK a (.ok r) = some (.o (.nx a)) := rfl
@[simp] theorem dropK_ex : dropK a (.ex r) = some (.ex r a) := rfl
@[simp] theorem ydrop_run {φ : FnX} : (Ys.dropC φ xs).run a = (xs.ev a).bind fun p => (φ p.1).bind (dropK p.2) := by
  show ((xs.ev a).bind fun p => _) = _
  congr 1
  funext p
  cases h : φ p.1 with
  | none => rfl
  | some r => cases r <;> rfl
@[simp] theorem yfor_run {it : Xi} {g : Xg} {w : List Nat} : (Ys.forS it g x w).run a = (it.ev a).bind fun p => forY g x w p.1 (wp p.2 w) := rfl
def outK : Option OutX → Option RX := fun o => o.bind outX
@[simp] theorem outX_nx : outX (.o (.nx a)) = some (.ok (.dat .none)) := rfl
@[simp] theorem outX_rt : outX (.o (.rt d a)) = some (.ok (.dat d)) := rfl
@[simp] theorem outX_ex : outX (.ex r a) = some (.ex r) := rfl
theorem fnX_eq {m n : Nat} {b : Ys} (h : ds.length = m) : fnX m n b ds = (b.run (ent n .no ds)).bind outX := if_pos h
end
end Px

set_option Elab.async false
set_option linter.all false
set_option autoImplicit false
set_option maxRecDepth 100000
set_option maxHeartbeats 4000000
namespace Nt
open PySem PySem.Spec PyProof.Rows L2 Lw Px Zn
section
variable {P : Program} {w : World} {G : Gx} {mg : Str → Option Value} {base : Heap}
/-! ### is_whole -/
abbrev s_is_whole : Stmt := topS 13
abbrev n_is_whole : List Str := ["thing"]
theorem sc_is_whole : FnScope n_is_whole ["thing"] (defScope s_is_whole) := ⟨rfl, rfl, rfl, by decide +kernel, rfl, by decide +kernel, by decide +kernel⟩
def b_is_whole : Xs := (Xs.ret (Xe.andV (Xe.isi (Xe.var 0) "int") (Xe.notV (Xe.isi (Xe.var 0) "bool"))))
def f_is_whole : Fn := fnOf 1 1 b_is_whole
theorem ok_is_whole (D : DefAt G.K mg "is_whole" s_is_whole ["thing"]) (B : Bi mg) : Cal P w G.K mg base 1 "is_whole" (spG G.K f_is_whole) :=
  DefAt.calG rfl D sc_is_whole (by decide) fun f cdv A outer s H E hr => pss_eq
  (pss_one (ps_ret (pe_and (pe_callB call_isi (by rfl) B.isi (by decide +kernel) (pa_cons (pv 0) (pa_cons (bt B.int (by decide +kernel)) pa_nil))) (pe_one (pe_not (pe_callB call_isi (by rfl) B.isi (by decide +kernel) (pa_cons (pv 0) (pa_cons (bt B.bool (by decide +kernel)) pa_nil)))))))) rfl
/-! ### is_tuple_of -/
abbrev s_is_tuple_of : Stmt := topS 15
abbrev n_is_tuple_of : List Str := ["thing", "many"]
theorem sc_is_tuple_of : FnScope n_is_tuple_of ["thing", "many"] (defScope s_is_tuple_of) := ⟨rfl, rfl, rfl, by decide +kernel, rfl, by decide +kernel, by decide +kernel⟩
def b_is_tuple_of : Xs := (Xs.ret (Xe.andV (Xe.isi (Xe.var 0) "tuple") (Xe.op oEq (Xe.cb bLen (Xa.cons (Xe.var 0) Xa.nil)) (Xe.var 1))))
def f_is_tuple_of : Fn := fnOf 2 2 b_is_tuple_of
theorem ok_is_tuple_of (D : DefAt G.K mg "is_tuple_of" s_is_tuple_of ["thing", "many"]) (B : Bi mg) : Cal P w G.K mg base 1 "is_tuple_of" (spG G.K f_is_tuple_of) :=
  DefAt.calG rfl D sc_is_tuple_of (by decide) fun f cdv A outer s H E hr => pss_eq
  (pss_one (ps_ret (pe_and (pe_callB call_isi (by rfl) B.isi (by decide +kernel) (pa_cons (pv 0) (pa_cons (bt B.tup (by decide +kernel)) pa_nil))) (pe_one (pe_cmpR op_eq (pe_callB call_len (by rfl) B.len PySem.boot_len (pa_cons (pv 0) pa_nil)) (pv 1) (nomark _)))))) rfl
/-! ### numbers_of -/
abbrev s_numbers_of : Stmt := topS 19
abbrev n_numbers_of : List Str := ["named", "k", "thing"]
theorem sc_numbers_of : FnScope n_numbers_of ["named"] (defScope s_numbers_of) := ⟨rfl, rfl, rfl, by decide +kernel, rfl, by decide +kernel, by decide +kernel⟩
def b_numbers_of : Xs := (Xs.ret (Xe.dc (itEnumT (Xe.var 0)) (Xg.tup [1, 2]) (Xe.op oIx (Xe.var 2) (Xe.int 0)) (Xe.var 1) [1, 2] (own_xtup (by simp))))
def f_numbers_of : Fn := fnOf 1 3 b_numbers_of
theorem ok_numbers_of (D : DefAt G.K mg "numbers_of" s_numbers_of ["named"]) (B : Bi mg) : Cal P w G.K mg base 1 "numbers_of" (spG G.K f_numbers_of) :=
  DefAt.calG rfl D sc_numbers_of (by decide) fun f cdv A outer s H E hr => pss_eq
  (pss_one (ps_ret (pe_pl (pe_dc (own := [("k", 1), ("thing", 2)]) (g := Xg.t (Xg.tup [1, 2]) G) (tt := tYes) (tk := Xe.t (Xe.op oIx (Xe.var 2) (Xe.int 0)) G) (tv := Xe.t (Xe.var 1) G) rfl sc_numbers_of.nd (pi_enumT (by rfl) B.enum (pa_cons (pv 0) pa_nil)) (blkOk_by (own := [("k", 1), ("thing", 2)]) (N := n_numbers_of) (sc := defScope s_numbers_of) (by decide +kernel)) (fun _ _ _ _ _ => pg_eq (pg_tup rfl (pgs_cons (pg_name (i := 1) sc_numbers_of.nd rfl (.inl rfl)) (pgs_cons (pg_name (i := 2) sc_numbers_of.nd rfl (.inl rfl)) pgs_nil))) rfl) (fun _ _ _ _ _ => pts_nil) (fun _ _ _ _ _ => pe_eq (pe_ix ix_seq (pv 2) pe_int (fun _ _ => rfl)) rfl) (fun _ _ _ _ _ => pe_eq (pv 1) rfl))))) rfl
/-! ### heap_flaw -/
abbrev s_heap_flaw : Stmt := topS 27
abbrev n_heap_flaw : List Str := ["net", "thing", "k", "count"]
theorem sc_heap_flaw : FnScope n_heap_flaw ["net", "thing"] (defScope s_heap_flaw) := ⟨rfl, rfl, rfl, by decide +kernel, rfl, by decide +kernel, by decide +kernel⟩
def b_heap_flaw : Xs := (Xs.seq (Xs.ifS (Xt.not (Xt.of (Xe.call f_is_tuple_of (Xa.cons (Xe.var 1) (Xa.cons (Xe.cb bLen (Xa.cons (Xe.op oIx (Xe.var 0) (Xe.int 0)) Xa.nil)) Xa.nil))))) (Xs.ret (Xe.tup (Xa.cons (Xe.str "heap") Xa.nil))) Xs.next)
    (Xs.seq (Xs.forS (itEnumT (Xe.var 1)) (Xg.tup [2, 3]) (Xs.ifS (Xt.or (Xt.not (Xt.of (Xe.call f_is_whole (Xa.cons (Xe.var 3) Xa.nil)))) (Xt.of (Xe.op oLt (Xe.var 3) (Xe.int 0)))) (Xs.ret (Xe.tup (Xa.cons (Xe.str "place") (Xa.cons (Xe.var 2) Xa.nil)))) Xs.next) [2, 3])
    (Xs.ret Xe.non)))
def f_heap_flaw : Fn := fnOf 2 4 b_heap_flaw
theorem ok_heap_flaw (D : DefAt G.K mg "heap_flaw" s_heap_flaw ["net", "thing"]) (B : Bi mg) (c_is_tuple_of : Cal P w G.K mg base 1 "is_tuple_of" (spG G.K f_is_tuple_of)) (c_is_whole : Cal P w G.K mg base 1 "is_whole" (spG G.K f_is_whole)) : Cal P w G.K mg base 2 "heap_flaw" (spG G.K f_heap_flaw) :=
  DefAt.calG rfl D sc_heap_flaw (by decide) fun f cdv A outer s H E hr => pss_eq
  (pss_cons (ps_if (pt_not (pt_val (pe_d c_is_tuple_of hr (by decide) (by rfl) (pa_cons (pv 1) (pa_cons (pe_callB call_len (by rfl) B.len PySem.boot_len (pa_cons (pe_ix ix_seq (pv 0) pe_int (fun _ _ => rfl)) pa_nil)) pa_nil))))) (pss_one (ps_ret (pe_tup (pa_cons pe_str pa_nil)))) pss_nil)
    (pss_cons (ps_for PassesOwn.never rfl (pi_enumT (by rfl) B.enum (pa_cons (pv 1) pa_nil)) (pg_tup rfl (pgs_cons (pg_name (i := 2) sc_heap_flaw.nd rfl (.inl rfl)) (pgs_cons (pg_name (i := 3) sc_heap_flaw.nd rfl (.inl rfl)) pgs_nil))) (pss_one (ps_if (pw_or (pt_not (pt_val (pe_d c_is_whole hr (by decide) (by rfl) (pa_cons (pv 3) pa_nil)))) (pw_or1 (pt_cmpR op_lt (pv 3) pe_int (nomark _)))).pt (pss_one (ps_ret (pe_tup (pa_cons pe_str (pa_cons (pv 2) pa_nil))))) pss_nil)))
    (pss_one (ps_ret pe_non)))) rfl
/-! ### heap_wrong -/
abbrev s_heap_wrong : Stmt := topS 26
abbrev n_heap_wrong : List Str := ["net", "thing"]
theorem sc_heap_wrong : FnScope n_heap_wrong ["net", "thing"] (defScope s_heap_wrong) := ⟨rfl, rfl, rfl, by decide +kernel, rfl, by decide +kernel, by decide +kernel⟩
def b_heap_wrong : Xs := (Xs.seq (Xs.drop (Xe.call f_check_net (Xa.cons (Xe.var 0) Xa.nil)))
    (Xs.ret (Xe.call f_heap_flaw (Xa.cons (Xe.var 0) (Xa.cons (Xe.var 1) Xa.nil)))))
def f_heap_wrong : Fn := fnOf 2 2 b_heap_wrong
theorem ok_heap_wrong (D : DefAt G.K mg "heap_wrong" s_heap_wrong ["net", "thing"]) (B : Bi mg) (c_check_net : Cal P w G.K mg base 7 "check_net" (spG G.K f_check_net)) (c_heap_flaw : Cal P w G.K mg base 2 "heap_flaw" (spG G.K f_heap_flaw)) : Cal P w G.K mg base 8 "heap_wrong" (spG G.K f_heap_wrong) :=
  DefAt.calG rfl D sc_heap_wrong (by decide) fun f cdv A outer s H E hr => pss_eq
  (pss_cons (ps_expr (pe_d c_check_net hr (by decide) (by rfl) (pa_cons (pv 0) pa_nil)))
    (pss_one (ps_ret (pe_d c_heap_flaw hr (by decide) (by rfl) (pa_cons (pv 0) (pa_cons (pv 1) pa_nil)))))) rfl
/-! ### check_net, that may raise -/
abbrev s_check_net : Stmt := topS 24
abbrev n_check_net : List Str := ["net", "wrong"]
theorem sc_check_net : FnScope n_check_net ["net"] (defScope s_check_net) := ⟨rfl, rfl, rfl, by decide +kernel, rfl, by decide +kernel, by decide +kernel⟩
def bx_check_net : Ys := (Ys.seq (Ys.of (Xs.set 1 (Xe.call f_net_wrong (Xa.cons (Xe.var 0) Xa.nil))))
    (Ys.ifS (Xt.of (Xe.op oNotN (Xe.var 1) Xe.non)) (Ys.raiseI "NoNet" ["wrong"] (Xa.cons (Xe.var 1) Xa.nil)) (Ys.of Xs.next)))
def fx_check_net : FnX := fnX 1 2 bx_check_net
theorem okx_check_net (D : DefAt G.K mg "check_net" s_check_net ["net"]) (B : Bi mg) (c_net_wrong : Cal P w G.K mg base 6 "net_wrong" (spG G.K f_net_wrong)) (i_NoNet : IniC P w G.K mg base 1 "NoNet" ["wrong"]) : CalX P w G.K mg base 7 "check_net" (spX G.K fx_check_net) :=
  DefAt.calX rfl D sc_check_net (by decide) fun f cdv A outer s H E hr tk => pss_eq
  (pss_cons (ps_quiet (ps_set (i := 1) sc_check_net.nd rfl (.inl rfl) (pe_d c_net_wrong hr (by decide) (by rfl) (pa_cons (pv 0) pa_nil))))
    (pss_one (ps_if (pt_cmpR op_notN (pv 1) pe_non (nomark _)) (pss_one (ps_raiseI i_NoNet rfl tk (hr.mono (by decide)) (Nat.le_refl 1) rfl (pa_cons (pv 1) pa_nil))) pss_nil))) rfl
/-! ### check_heap, that may raise -/
abbrev s_check_heap : Stmt := topS 28
abbrev n_check_heap : List Str := ["net", "heap", "wrong"]
theorem sc_check_heap : FnScope n_check_heap ["net", "heap"] (defScope s_check_heap) := ⟨rfl, rfl, rfl, by decide +kernel, rfl, by decide +kernel, by decide +kernel⟩
def bx_check_heap : Ys := (Ys.seq (Ys.of (Xs.set 2 (Xe.call f_heap_wrong (Xa.cons (Xe.var 0) (Xa.cons (Xe.var 1) Xa.nil)))))
    (Ys.ifS (Xt.of (Xe.op oNotN (Xe.var 2) Xe.non)) (Ys.raiseI "NoHeap" ["wrong"] (Xa.cons (Xe.var 2) Xa.nil)) (Ys.of Xs.next)))
def fx_check_heap : FnX := fnX 2 3 bx_check_heap
theorem okx_check_heap (D : DefAt G.K mg "check_heap" s_check_heap ["net", "heap"]) (B : Bi mg) (c_heap_wrong : Cal P w G.K mg base 8 "heap_wrong" (spG G.K f_heap_wrong)) (i_NoHeap : IniC P w G.K mg base 1 "NoHeap" ["wrong"]) : CalX P w G.K mg base 9 "check_heap" (spX G.K fx_check_heap) :=
  DefAt.calX rfl D sc_check_heap (by decide) fun f cdv A outer s H E hr tk => pss_eq
  (pss_cons (ps_quiet (ps_set (i := 2) sc_check_heap.nd rfl (.inl rfl) (pe_d c_heap_wrong hr (by decide) (by rfl) (pa_cons (pv 0) (pa_cons (pv 1) pa_nil)))))
    (pss_one (ps_if (pt_cmpR op_notN (pv 2) pe_non (nomark _)) (pss_one (ps_raiseI i_NoHeap rfl tk (hr.mono (by decide)) (Nat.le_refl 1) rfl (pa_cons (pv 2) pa_nil))) pss_nil))) rfl
/-! ### led, that may raise -/
abbrev s_led : Stmt := topS 30
abbrev n_led : List Str := ["net", "other", "heap", "names", "numbers", "images", "place", "_", "image", "count", "counts", "start"]
theorem sc_led : FnScope n_led ["net", "other", "heap", "names"] (defScope s_led) := ⟨rfl, rfl, rfl, by decide +kernel, rfl, by decide +kernel, by decide +kernel⟩
def bx_led : Ys := (Ys.seq (Ys.dropC fx_check_net (Xa.cons (Xe.var 0) Xa.nil))
    (Ys.seq (Ys.dropC fx_check_net (Xa.cons (Xe.var 1) Xa.nil))
    (Ys.seq (Ys.dropC fx_check_heap (Xa.cons (Xe.var 0) (Xa.cons (Xe.var 2) Xa.nil)))
    (Ys.seq (Ys.of (Xs.set 4 (Xe.call f_numbers_of (Xa.cons (Xe.op oIx (Xe.var 1) (Xe.int 0)) Xa.nil))))
    (Ys.seq (Ys.of (Xs.set 5 (Xe.ofF (Xf.lc (itTup (Xe.op oIx (Xe.var 0) (Xe.int 0))) (Xg.tup [6, 7]) Xt.yes (Xe.getD (Xe.var 3) (Xe.var 6) (Xe.var 6)) [6, 7] (own_xtup (by simp))))))
    (Ys.seq (Ys.forS (itZip 3 (by decide) (Xa.cons (Xe.op oIx (Xe.var 0) (Xe.int 0)) (Xa.cons (Xe.var 5) (Xa.cons (Xe.var 2) Xa.nil)))) (Xg.tupG [(Xg.tup [6, 7]), (Xg.name 8), (Xg.name 9)]) (Ys.ifS (Xt.and (Xt.of (Xe.op oGt (Xe.var 9) (Xe.int 0))) (Xt.of (Xe.din true (Xe.var 8) (Xe.var 4)))) (Ys.raiseI "Gone" ["place"] (Xa.cons (Xe.var 6) Xa.nil)) (Ys.of Xs.next)) [6, 7, 8, 9])
    (Ys.seq (Ys.of (Xs.setDc 10 (itTup (Xe.op oIx (Xe.var 1) (Xe.int 0))) (Xg.tup [6, 11]) (Xe.var 6) (Xe.ifE (Xt.of (Xe.op (oIn false) (Xe.var 6) (Xe.var 5))) (Xe.int 0) (Xe.var 11)) [6, 11] (own_xtup (by simp))))
    (Ys.seq (Ys.of (Xs.forS (itZip 2 (by decide) (Xa.cons (Xe.var 5) (Xa.cons (Xe.var 2) Xa.nil))) (Xg.tup [8, 9]) (Xs.ifS (Xt.of (Xe.dinO false (Xe.var 8) 10)) (Xs.augD 10 oAdd (Xe.var 8) (Xe.var 9)) Xs.next) [8, 9]))
    (Ys.of (Xs.ret (Xe.tupVals (Xe.varD 10))))))))))))
def fx_led : FnX := fnX 4 12 bx_led
theorem okx_led (D : DefAt G.K mg "led" s_led ["net", "other", "heap", "names"]) (B : Bi mg) (c_numbers_of : Cal P w G.K mg base 1 "numbers_of" (spG G.K f_numbers_of)) (cx_check_net : CalX P w G.K mg base 7 "check_net" (spX G.K fx_check_net)) (cx_check_heap : CalX P w G.K mg base 9 "check_heap" (spX G.K fx_check_heap)) (i_Gone : IniC P w G.K mg base 1 "Gone" ["place"]) : CalX P w G.K mg base 10 "led" (spX G.K fx_led) :=
  DefAt.calX rfl D sc_led (by decide) fun f cdv A outer s H E hr tk => pss_eq
  (pss_cons (ps_expr (pe_dX cx_check_net hr (by decide) tk rfl (pa_cons (pv 0) pa_nil)))
    (pss_cons (ps_expr (pe_dX cx_check_net hr (by decide) tk rfl (pa_cons (pv 1) pa_nil)))
    (pss_cons (ps_expr (pe_dX cx_check_heap hr (by decide) tk rfl (pa_cons (pv 0) (pa_cons (pv 2) pa_nil))))
    (pss_cons (ps_quiet (ps_set (i := 4) sc_led.nd rfl (.inl rfl) (pe_d c_numbers_of hr (by decide) (by rfl) (pa_cons (pe_ix ix_seq (pv 1) pe_int (fun _ _ => rfl)) pa_nil))))
    (pss_cons (ps_quiet (ps_set (i := 5) sc_led.nd rfl (.inr rfl) (pe_lc (own := [("place", 6), ("_", 7)]) (g := Xg.t (Xg.tup [6, 7]) G) (tt := Xt.t Xt.yes G) (te := Xe.t (Xe.getD (Xe.var 3) (Xe.var 6) (Xe.var 6)) G) rfl sc_led.nd (pi_tup (pe_ix ix_seq (pv 0) pe_int (fun _ _ => rfl))) (blkOk_by (own := [("place", 6), ("_", 7)]) (N := n_led) (sc := defScope s_led) (by decide +kernel)) (fun _ _ _ _ _ => (pg_eq (pg_tup rfl (pgs_cons (pg_name (i := 6) sc_led.nd rfl (.inl rfl)) (pgs_cons (pg_name (i := 7) sc_led.nd rfl (.inl rfl)) pgs_nil))) rfl)) (fun _ _ _ _ _ => (pts_eq pts_nil rfl)) (fun _ _ _ _ _ => (pe_eq (pe_dget2 (hu_of hr) (pv 3) (pv 6) (pv 6) ⟨rfl, rfl, rfl, rfl⟩) rfl)))))
    (pss_cons (ps_for (passes_of rfl) rfl (pi_zip3 (by rfl) B.zip (pa_cons (pe_ix ix_seq (pv 0) pe_int (fun _ _ => rfl)) (pa_cons (pv 5) (pa_cons (pv 2) pa_nil)))) (pg_tup rfl (pgs_cons (pg_tup rfl (pgs_cons (pg_name (i := 6) sc_led.nd rfl (.inl rfl)) (pgs_cons (pg_name (i := 7) sc_led.nd rfl (.inl rfl)) pgs_nil))) (pgs_cons (pg_name (i := 8) sc_led.nd rfl (.inl rfl)) (pgs_cons (pg_name (i := 9) sc_led.nd rfl (.inl rfl)) pgs_nil)))) (pss_one (ps_if (pw_and (pt_cmpR op_gt (pv 9) pe_int (nomark _)) (pw_and1 (pt_cmp (pc_dnotin (hu_of hr) (pv 8) (pv 4))))).pt (pss_one (ps_raiseI i_Gone rfl tk (hr.mono (by decide)) (Nat.le_refl 1) rfl (pa_cons (pv 6) pa_nil))) pss_nil)))
    (pss_cons (ps_quiet (ps_setDc (i := 10) (own := [("place", 6), ("start", 11)]) (g := Xg.t (Xg.tup [6, 11]) G) (tt := tYes) (tk := Xe.t (Xe.var 6) G) (tv := Xe.t (Xe.ifE (Xt.of (Xe.op (oIn false) (Xe.var 6) (Xe.var 5))) (Xe.int 0) (Xe.var 11)) G) rfl sc_led.nd rfl rfl (by rfl) (pi_tup (pe_ix ix_seq (pv 1) pe_int (fun _ _ => rfl))) (blkOk_by (own := [("place", 6), ("start", 11)]) (N := n_led) (sc := defScope s_led) (by decide +kernel)) (fun _ _ _ _ _ => pg_eq (pg_tup rfl (pgs_cons (pg_name (i := 6) sc_led.nd rfl (.inl rfl)) (pgs_cons (pg_name (i := 11) sc_led.nd rfl (.inl rfl)) pgs_nil))) rfl) (fun _ _ _ _ _ => pts_nil) (fun _ _ _ _ _ => pe_eq (pv 6) rfl) (fun _ _ _ _ _ => pe_eq (pe_ifExp (pt_cmpR op_in_seq (pv 6) (pv 5) (by rfl)) pe_int (pv 11)) rfl)))
    (pss_cons (ps_quiet (ps_for PassesOwn.never rfl (pi_zip2 (by rfl) B.zip (pa_cons (pv 5) (pa_cons (pv 2) pa_nil))) (pg_tup rfl (pgs_cons (pg_name (i := 8) sc_led.nd rfl (.inl rfl)) (pgs_cons (pg_name (i := 9) sc_led.nd rfl (.inl rfl)) pgs_nil))) (pss_one (ps_if (pt_cmp (pc_din (hu_of hr) (pv 8) (pv 10))) (pss_one (ps_daug (hu_of hr) (pv 10) (pv 8) (pv 9) (in_of iop_add) (fun _ _ _ => rfl))) pss_nil))))
    (pss_one (ps_quiet (ps_ret (pe_tupVals (by rfl) (by rfl) B.tup (pe_pl (pv 10)))))))))))))) rfl
end
end Nt

set_option Elab.async false
set_option linter.all false
set_option autoImplicit false
set_option maxRecDepth 100000
set_option maxHeartbeats 4000000
namespace Nt
open PySem PySem.Spec PyProof.Rows L2 Lw Px Zn
section
variable {P : Program} {w : World} {G : Gx} {mg : Str → Option Value} {base : Heap}
/-! ### _law_at -/
abbrev s_Lat : Stmt := topS 32
abbrev n_Lat : List Str := ["_law_script", "_law_k"]
theorem sc_Lat : FnScope n_Lat ["_law_script", "_law_k"] (defScope s_Lat) := ⟨rfl, rfl, rfl, by decide +kernel, rfl, by decide +kernel, by decide +kernel⟩
def b_Lat : Xs := (Xs.seq (Xs.ifS (Xt.of (Xe.op oLt (Xe.var 1) (Xe.lenSeq 0))) (Xs.ret (Xe.ixSeq 0 (Xe.var 1))) Xs.next)
    (Xs.ret (Xe.int 0)))
def f_Lat : Fn := fnOf 2 2 b_Lat
theorem ok_Lat (D : DefAt G.K mg "_law_at" s_Lat ["_law_script", "_law_k"]) (B : Bi mg) : Cal P w G.K mg base 1 "_law_at" (spG G.K f_Lat) :=
  DefAt.calG rfl D sc_Lat (by decide) fun f cdv A outer s H E hr => pss_eq
  (pss_cons (ps_if (pt_cmpR op_lt (pv 1) (pe_callB call_len (by rfl) B.len PySem.boot_len (pa_cons (pv 0) pa_nil)) (nomark _)) (pss_one (ps_ret (pe_ix ix_seq (pv 0) (pv 1) (fun _ _ => rfl)))) pss_nil)
    (pss_one (ps_ret pe_int))) rfl
/-! ### _law_mixed -/
abbrev s_Lmixed : Stmt := topS 33
abbrev n_Lmixed : List Str := ["_law_cell", "_law_k", "_law_number"]
theorem sc_Lmixed : FnScope n_Lmixed ["_law_cell", "_law_k"] (defScope s_Lmixed) := ⟨rfl, rfl, rfl, by decide +kernel, rfl, by decide +kernel, by decide +kernel⟩
def b_Lmixed : Xs := (Xs.seq (Xs.set 2 (Xe.op oMod (Xe.op oAdd (Xe.op oAdd (Xe.op oAdd (Xe.op oMul (Xe.var 0) (Xe.int 1103515245)) (Xe.op oMul (Xe.op oMul (Xe.int 7919) (Xe.var 1)) (Xe.var 1))) (Xe.var 1)) (Xe.int 1)) (Xe.int 2147483647)))
    (Xs.seq (Xs.set 2 (Xe.op oMod (Xe.op oAdd (Xe.op oMul (Xe.var 2) (Xe.var 2)) (Xe.int 69621)) (Xe.int 2147483629)))
    (Xs.ret (Xe.op oMod (Xe.op oMul (Xe.var 2) (Xe.int 48271)) (Xe.int 2147483587)))))
def f_Lmixed : Fn := fnOf 2 3 b_Lmixed
theorem ok_Lmixed (D : DefAt G.K mg "_law_mixed" s_Lmixed ["_law_cell", "_law_k"]) (B : Bi mg) : Cal P w G.K mg base 1 "_law_mixed" (spG G.K f_Lmixed) :=
  DefAt.calG rfl D sc_Lmixed (by decide) fun f cdv A outer s H E hr => pss_eq
  (pss_cons (ps_set (i := 2) sc_Lmixed.nd rfl (.inl rfl) (pe_op op_mod (pe_op op_add (pe_op op_add (pe_op op_add (pe_op op_mul (pv 0) pe_int) (pe_op op_mul (pe_op op_mul pe_int (pv 1)) (pv 1))) (pv 1)) pe_int) pe_int))
    (pss_cons (ps_set (i := 2) sc_Lmixed.nd rfl (.inl rfl) (pe_op op_mod (pe_op op_add (pe_op op_mul (pv 2) (pv 2)) pe_int) pe_int))
    (pss_one (ps_ret (pe_op op_mod (pe_op op_mul (pv 2) pe_int) pe_int))))) rfl
/-! ### _law_purse -/
abbrev s_Lpurse : Stmt := topS 34
abbrev n_Lpurse : List Str := ["_law_script", "_law_at_here", "_law_cell"]
theorem sc_Lpurse : FnScope n_Lpurse ["_law_script", "_law_at_here"] (defScope s_Lpurse) := ⟨rfl, rfl, rfl, by decide +kernel, rfl, by decide +kernel, by decide +kernel⟩
def b_Lpurse : Xs := (Xs.seq (Xs.set 2 (Xe.callS f_Lat 0 (Xa.cons (Xe.var 1) Xa.nil)))
    (Xs.retF (Xf.lst (Xa.cons (Xe.op oMod (Xe.cb bMax (Xa.cons (Xe.op oSub (Xe.var 2) (Xe.op oPow (Xe.int 10) (Xe.int 18))) (Xa.cons (Xe.int 0) Xa.nil))) (Xe.op oPowB (Xe.op oPow (Xe.int 10) (Xe.int 60)) (Xe.int 10))) (Xa.cons (Xe.op oMod (Xe.var 2) (Xe.int 2147483647)) (Xa.cons (Xe.op oMul (Xe.int 1000) (Xe.var 1)) Xa.nil))))))
def f_Lpurse : Fn := fnOf 2 3 b_Lpurse
theorem ok_Lpurse (D : DefAt G.K mg "_law_purse" s_Lpurse ["_law_script", "_law_at_here"]) (B : Bi mg) (c_Lat : Cal P w G.K mg base 1 "_law_at" (spG G.K f_Lat)) : Cal P w G.K mg base 2 "_law_purse" (spG G.K f_Lpurse) :=
  DefAt.calG rfl D sc_Lpurse (by decide) fun f cdv A outer s H E hr => pss_eq
  (pss_cons (ps_set (i := 2) sc_Lpurse.nd rfl (.inl rfl) (pe_d c_Lat hr (by decide) (by rfl) (pa_cons (pv 0) (pa_cons (pv 1) pa_nil))))
    (pss_one (ps_ret (pe_lst (pa_cons (pe_op op_mod (pe_callB (call_max2 rfl) (by rfl) B.max (by decide +kernel) (pa_cons (pe_op op_sub (pv 2) (pe_op op_pow pe_int pe_int)) (pa_cons pe_int pa_nil))) (pe_op op_powB (pe_op op_pow pe_int pe_int) pe_int)) (pa_cons (pe_op op_mod (pv 2) pe_int) (pa_cons (pe_op op_mul pe_int (pv 1)) pa_nil))))))) rfl
/-! ### _law_draw -/
abbrev s_Ldraw : Stmt := topS 35
abbrev n_Ldraw : List Str := ["_law_purse_here", "_law_out_of", "_law_drawn", "_law_number", "_law_k"]
theorem sc_Ldraw : FnScope n_Ldraw ["_law_purse_here", "_law_out_of"] (defScope s_Ldraw) := ⟨rfl, rfl, rfl, by decide +kernel, rfl, by decide +kernel, by decide +kernel⟩
def b_Ldraw : Xs := (Xs.seq (Xs.ifS (Xt.tmp (Xt.of (Xe.op oGt (Xe.tmp (Xe.op oIx (Xe.var 0) (Xe.int 0))) (Xe.int 0)))) (Xs.seq (Xs.set 2 (Xe.tmp (Xe.op oMod (Xe.tmp (Xe.op oIx (Xe.var 0) (Xe.int 0))) (Xe.var 1))))
    (Xs.seq (Xs.setI 0 (Xe.int 0) (Xe.tmp (Xe.op oDiv (Xe.tmp (Xe.op oIx (Xe.var 0) (Xe.int 0))) (Xe.var 1))))
    (Xs.ret (Xe.var 2)))) Xs.next)
    (Xs.seq (Xs.set 3 (Xe.int 0))
    (Xs.seq (Xs.forS (itRng1 (Xe.op oAdd (Xe.int 1) (Xe.op oDiv (Xe.bits (Xe.var 1)) (Xe.int 30)))) (Xg.name 4) (Xs.seq (Xs.setI 0 (Xe.int 2) (Xe.tmp (Xe.op oAdd (Xe.tmp (Xe.op oIx (Xe.var 0) (Xe.int 2))) (Xe.int 1))))
    (Xs.set 3 (Xe.tmp (Xe.op oAdd (Xe.op oMul (Xe.var 3) (Xe.int 2147483587)) (Xe.tmp (Xe.call f_Lmixed (Xa.cons (Xe.tmp (Xe.op oIx (Xe.var 0) (Xe.int 1))) (Xa.cons (Xe.tmp (Xe.op oIx (Xe.var 0) (Xe.int 2))) Xa.nil)))))))) [4])
    (Xs.ret (Xe.op oMod (Xe.var 3) (Xe.var 1))))))
def f_Ldraw : Fn := fnOf 2 5 b_Ldraw
theorem ok_Ldraw (D : DefAt G.K mg "_law_draw" s_Ldraw ["_law_purse_here", "_law_out_of"]) (B : Bi mg) (c_Lmixed : Cal P w G.K mg base 1 "_law_mixed" (spG G.K f_Lmixed)) : Cal P w G.K mg base 2 "_law_draw" (spG G.K f_Ldraw) :=
  DefAt.calG rfl D sc_Ldraw (by decide) fun f cdv A outer s H E hr => pss_eq
  (pss_cons (ps_if (pt_cmpR op_gt (pe_ix ix_seq (pv 0) pe_int (fun _ _ => rfl)) pe_int (nomark _)) (pss_cons (ps_set (i := 2) sc_Ldraw.nd rfl (.inl rfl) (pe_op op_mod (pe_ix ix_seq (pv 0) pe_int (fun _ _ => rfl)) (pv 1)))
    (pss_cons (ps_asg (pe_op op_fdivW (pe_ix ix_seq (pv 0) pe_int (fun _ _ => rfl)) (pv 1)) (pg_sub (pv 0) pe_int set_list))
    (pss_one (ps_ret (pv 2))))) pss_nil)
    (pss_cons (ps_set (i := 3) sc_Ldraw.nd rfl (.inl rfl) pe_int)
    (pss_cons (ps_for PassesOwn.never rfl (pi_range1 (by rfl) B.range (pa_cons (pe_op op_add pe_int (pe_op op_fdivW (pe_bits (pv 1)) pe_int)) pa_nil)) (pg_name (i := 4) sc_Ldraw.nd rfl (.inl rfl)) (pss_cons (ps_asg (pe_op op_add (pe_ix ix_seq (pv 0) pe_int (fun _ _ => rfl)) pe_int) (pg_sub (pv 0) pe_int set_list))
    (pss_one (ps_set (i := 3) sc_Ldraw.nd rfl (.inl rfl) (pe_op op_add (pe_op op_mul (pv 3) pe_int) (pe_d c_Lmixed hr (by decide) (by rfl) (pa_cons (pe_ix ix_seq (pv 0) pe_int (fun _ _ => rfl)) (pa_cons (pe_ix ix_seq (pv 0) pe_int (fun _ _ => rfl)) pa_nil))))))))
    (pss_one (ps_ret (pe_op op_mod (pv 3) (pv 1))))))) rfl
/-! ### _law_parts -/
abbrev s_Lparts : Stmt := topS 36
abbrev n_Lparts : List Str := ["_law_purse_here", "_law_names", "_law_many", "_law_found", "_law_name"]
theorem sc_Lparts : FnScope n_Lparts ["_law_purse_here", "_law_names", "_law_many"] (defScope s_Lparts) := ⟨rfl, rfl, rfl, by decide +kernel, rfl, by decide +kernel, by decide +kernel⟩
def b_Lparts : Xs := (Xs.seq (Xs.setF 3 (Xf.lst Xa.nil))
    (Xs.seq (Xs.forS (itList (Xe.var 1)) (Xg.name 4) (Xs.ifS (Xt.and (Xt.of (Xe.op oEq (Xe.callM f_Ldraw 0 (Xa.cons (Xe.int 3) Xa.nil)) (Xe.int 0))) (Xt.tmp (Xt.of (Xe.op oLt (Xe.tmp (Xe.cb bLen (Xa.cons (Xe.var 3) Xa.nil))) (Xe.var 2))))) (Xs.app 3 (Xe.tup (Xa.cons (Xe.var 4) (Xa.cons (Xe.op oAdd (Xe.int 1) (Xe.op oDiv (Xe.callM f_Ldraw 0 (Xa.cons (Xe.int 8) Xa.nil)) (Xe.int 6))) Xa.nil)))) Xs.next) [4])
    (Xs.ret (Xe.cb bTup (Xa.cons (Xe.var 3) Xa.nil)))))
def f_Lparts : Fn := fnOf 3 5 b_Lparts
theorem ok_Lparts (D : DefAt G.K mg "_law_parts" s_Lparts ["_law_purse_here", "_law_names", "_law_many"]) (B : Bi mg) (c_Ldraw : Cal P w G.K mg base 2 "_law_draw" (spG G.K f_Ldraw)) : Cal P w G.K mg base 3 "_law_parts" (spG G.K f_Lparts) :=
  DefAt.calG rfl D sc_Lparts (by decide) fun f cdv A outer s H E hr => pss_eq
  (pss_cons (ps_set (i := 3) sc_Lparts.nd rfl (.inl rfl) (pe_lst pa_nil))
    (pss_cons (ps_for PassesOwn.never rfl (pi_list (pv 1)) (pg_name (i := 4) sc_Lparts.nd rfl (.inl rfl)) (pss_one (ps_if (pw_and (pt_cmpR op_eq (pe_d c_Ldraw hr (by decide) (by rfl) (pa_cons (pv 0) (pa_cons pe_int pa_nil))) pe_int (nomark _)) (pw_and1 (pt_cmpR op_lt (pe_callB call_len (by rfl) B.len PySem.boot_len (pa_cons (pv 3) pa_nil)) (pv 2) (nomark _)))).pt (pss_one (ps_expr (pe_bm PySem.F.plainAttrs_list PySem.F.slot_list_append PySem.F.type_list_append mt_append (pv 3) (pa_cons (pe_tup (pa_cons (pv 4) (pa_cons (pe_op op_add pe_int (pe_op op_fdivW (pe_d c_Ldraw hr (by decide) (by rfl) (pa_cons (pv 0) (pa_cons pe_int pa_nil))) pe_int)) pa_nil))) pa_nil)))) pss_nil)))
    (pss_one (ps_ret (pe_callTy call_tuple_of (by rfl) B.tup PyProof.Rows.boot_tuple (pa_cons (pv 3) pa_nil)))))) rfl
/-! ### _law_even -/
abbrev s_Leven : Stmt := topS 37
abbrev n_Leven : List Str := ["_law_purse_here", "_law_names", "_law_one", "_law_other", "_law_pick", "_law_both", "_law_name", "_law_third"]
theorem sc_Leven : FnScope n_Leven ["_law_purse_here", "_law_names"] (defScope s_Leven) := ⟨rfl, rfl, rfl, by decide +kernel, rfl, by decide +kernel, by decide +kernel⟩
def b_Leven : Xs := (Xs.seq (Xs.set 2 (Xe.op oIx (Xe.var 1) (Xe.callM f_Ldraw 0 (Xa.cons (Xe.cb bLen (Xa.cons (Xe.var 1) Xa.nil)) Xa.nil))))
    (Xs.seq (Xs.set 3 (Xe.op oIx (Xe.var 1) (Xe.callM f_Ldraw 0 (Xa.cons (Xe.cb bLen (Xa.cons (Xe.var 1) Xa.nil)) Xa.nil))))
    (Xs.seq (Xs.set 4 (Xe.callM f_Ldraw 0 (Xa.cons (Xe.int 3) Xa.nil)))
    (Xs.seq (Xs.ifS (Xt.or (Xt.of (Xe.op oEq (Xe.var 4) (Xe.int 0))) (Xt.of (Xe.op oEq (Xe.var 2) (Xe.var 3)))) (Xs.ret (Xe.lst (Xa.cons (Xe.tup (Xa.cons (Xe.tup (Xa.cons (Xe.var 2) (Xa.cons (Xe.int 1) Xa.nil))) Xa.nil)) (Xa.cons (Xe.tup (Xa.cons (Xe.tup (Xa.cons (Xe.var 3) (Xa.cons (Xe.int 1) Xa.nil))) Xa.nil)) Xa.nil)))) Xs.next)
    (Xs.seq (Xs.set 5 (Xe.cb bTup (Xa.cons (Xe.ofF (Xf.lc (itList (Xe.var 1)) (Xg.name 6) (Xt.of (Xe.op (oIn false) (Xe.var 6) (Xe.tup (Xa.cons (Xe.var 2) (Xa.cons (Xe.var 3) Xa.nil))))) (Xe.tup (Xa.cons (Xe.var 6) (Xa.cons (Xe.int 1) Xa.nil))) [6] (own_xname (by simp)))) Xa.nil)))
    (Xs.seq (Xs.set 7 (Xe.op oIx (Xe.var 1) (Xe.callM f_Ldraw 0 (Xa.cons (Xe.cb bLen (Xa.cons (Xe.var 1) Xa.nil)) Xa.nil))))
    (Xs.ret (Xe.op oIx (Xe.lst (Xa.cons (Xe.lst (Xa.cons (Xe.var 5) (Xa.cons (Xe.tup (Xa.cons (Xe.tup (Xa.cons (Xe.var 7) (Xa.cons (Xe.int 2) Xa.nil))) Xa.nil)) Xa.nil))) (Xa.cons (Xe.lst (Xa.cons (Xe.tup (Xa.cons (Xe.tup (Xa.cons (Xe.var 7) (Xa.cons (Xe.int 2) Xa.nil))) Xa.nil)) (Xa.cons (Xe.var 5) Xa.nil))) Xa.nil))) (Xe.op oSub (Xe.var 4) (Xe.int 1))))))))))
def f_Leven : Fn := fnOf 2 8 b_Leven
theorem ok_Leven (D : DefAt G.K mg "_law_even" s_Leven ["_law_purse_here", "_law_names"]) (B : Bi mg) (c_Ldraw : Cal P w G.K mg base 2 "_law_draw" (spG G.K f_Ldraw)) : Cal P w G.K mg base 3 "_law_even" (spG G.K f_Leven) :=
  DefAt.calG rfl D sc_Leven (by decide) fun f cdv A outer s H E hr => pss_eq
  (pss_cons (ps_set (i := 2) sc_Leven.nd rfl (.inr rfl) (pe_ix ix_seq (pv 1) (pe_d c_Ldraw hr (by decide) (by rfl) (pa_cons (pv 0) (pa_cons (pe_callB call_len (by rfl) B.len PySem.boot_len (pa_cons (pv 1) pa_nil)) pa_nil))) (fun _ _ => rfl)))
    (pss_cons (ps_set (i := 3) sc_Leven.nd rfl (.inr rfl) (pe_ix ix_seq (pv 1) (pe_d c_Ldraw hr (by decide) (by rfl) (pa_cons (pv 0) (pa_cons (pe_callB call_len (by rfl) B.len PySem.boot_len (pa_cons (pv 1) pa_nil)) pa_nil))) (fun _ _ => rfl)))
    (pss_cons (ps_set (i := 4) sc_Leven.nd rfl (.inl rfl) (pe_d c_Ldraw hr (by decide) (by rfl) (pa_cons (pv 0) (pa_cons pe_int pa_nil))))
    (pss_cons (ps_if (pw_or (pt_cmpR op_eq (pv 4) pe_int (nomark _)) (pw_or1 (pt_cmpR op_eq (pv 2) (pv 3) (nomark _)))).pt (pss_one (ps_ret (pe_lst (pa_cons (pe_tup (pa_cons (pe_tup (pa_cons (pv 2) (pa_cons pe_int pa_nil))) pa_nil)) (pa_cons (pe_tup (pa_cons (pe_tup (pa_cons (pv 3) (pa_cons pe_int pa_nil))) pa_nil)) pa_nil))))) pss_nil)
    (pss_cons (ps_set (i := 5) sc_Leven.nd rfl (.inl rfl) (pe_callTy call_tuple_of (by rfl) B.tup PyProof.Rows.boot_tuple (pa_cons (pe_lc (own := [("_law_name", 6)]) (g := Xg.t (Xg.name 6) G) (tt := Xt.t (Xt.of (Xe.op (oIn false) (Xe.var 6) (Xe.tup (Xa.cons (Xe.var 2) (Xa.cons (Xe.var 3) Xa.nil))))) G) (te := Xe.t (Xe.tup (Xa.cons (Xe.var 6) (Xa.cons (Xe.int 1) Xa.nil))) G) rfl sc_Leven.nd (pi_list (pv 1)) (blkOk_by (own := [("_law_name", 6)]) (N := n_Leven) (sc := defScope s_Leven) (by decide +kernel)) (fun _ _ _ _ _ => (pg_eq (pg_name (i := 6) sc_Leven.nd rfl (.inl rfl)) rfl)) (fun _ _ _ _ _ => (pts_eq (pts_one (pt_cmpR op_in_seq (pv 6) (pe_tup (pa_cons (pv 2) (pa_cons (pv 3) pa_nil))) (by rfl))) rfl)) (fun _ _ _ _ _ => (pe_eq (pe_tup (pa_cons (pv 6) (pa_cons pe_int pa_nil))) rfl))) pa_nil)))
    (pss_cons (ps_set (i := 7) sc_Leven.nd rfl (.inl rfl) (pe_ix ix_seq (pv 1) (pe_d c_Ldraw hr (by decide) (by rfl) (pa_cons (pv 0) (pa_cons (pe_callB call_len (by rfl) B.len PySem.boot_len (pa_cons (pv 1) pa_nil)) pa_nil))) (fun _ _ => rfl)))
    (pss_one (ps_ret (pe_ix ix_seq (pe_lst (pa_cons (pe_lst (pa_cons (pv 5) (pa_cons (pe_tup (pa_cons (pe_tup (pa_cons (pv 7) (pa_cons pe_int pa_nil))) pa_nil)) pa_nil))) (pa_cons (pe_lst (pa_cons (pe_tup (pa_cons (pe_tup (pa_cons (pv 7) (pa_cons pe_int pa_nil))) pa_nil)) (pa_cons (pv 5) pa_nil))) pa_nil))) (pe_op op_sub (pv 4) pe_int) (fun _ _ => rfl)))))))))) rfl
/-! ### _law_net -/
abbrev s_Lnet : Stmt := topS 38
abbrev n_Lnet : List Str := ["_law_purse_here", "_law_sort", "_law_names", "_law_places", "_law_name", "_law_firings", "_law_k", "_law_takes", "_law_gives", "_law_j", "_law_label"]
theorem sc_Lnet : FnScope n_Lnet ["_law_purse_here", "_law_sort"] (defScope s_Lnet) := ⟨rfl, rfl, rfl, by decide +kernel, rfl, by decide +kernel, by decide +kernel⟩
def b_Lnet : Xs := (Xs.seq (Xs.set 2 (Xe.sl slL (Xe.lst (Xa.cons (Xe.str "pa") (Xa.cons (Xe.str "b") (Xa.cons (Xe.str "c2") (Xa.cons (Xe.str "dd") (Xa.cons (Xe.str "e") Xa.nil)))))) Xq.none (Xq.some (Xe.op oAdd (Xe.int 1) (Xe.callM f_Ldraw 0 (Xa.cons (Xe.int 5) Xa.nil))))))
    (Xs.seq (Xs.set 3 (Xe.cb bTup (Xa.cons (Xe.ofF (Xf.lc (itList (Xe.var 2)) (Xg.name 4) Xt.yes (Xe.tup (Xa.cons (Xe.var 4) (Xa.cons (Xe.op oDiv (Xe.callM f_Ldraw 0 (Xa.cons (Xe.int 8) Xa.nil)) (Xe.int 3)) Xa.nil))) [4] (own_xname (by simp)))) Xa.nil)))
    (Xs.seq (Xs.setF 5 (Xf.lst Xa.nil))
    (Xs.seq (Xs.forS (itRng1 (Xe.op oAdd (Xe.int 1) (Xe.callM f_Ldraw 0 (Xa.cons (Xe.int 6) Xa.nil)))) (Xg.name 6) (Xs.seq (Xs.asg (Xg.lst [7, 8]) (Xe.callM f_Leven 0 (Xa.cons (Xe.var 2) Xa.nil)))
    (Xs.seq (Xs.ifS (Xt.or (Xt.of (Xe.op oEq (Xe.var 1) (Xe.int 1))) (Xt.and (Xt.of (Xe.op oEq (Xe.var 1) (Xe.int 2))) (Xt.of (Xe.op oEq (Xe.callM f_Ldraw 0 (Xa.cons (Xe.int 3) Xa.nil)) (Xe.int 0))))) (Xs.asg (Xg.lst [7, 8]) (Xe.ofF (Xf.lc (itRng1 (Xe.int 2)) (Xg.name 9) Xt.yes (Xe.callM f_Lparts 0 (Xa.cons (Xe.var 2) (Xa.cons (Xe.int 3) Xa.nil))) [9] (own_xname (by simp))))) Xs.next)
    (Xs.seq (Xs.set 10 (Xe.op oIx (Xe.lst (Xa.cons (Xe.str "") (Xa.cons (Xe.str "x") (Xa.cons (Xe.str "y") (Xa.cons (Xe.op oAddS (Xe.str "t") (Xe.cb bStrI (Xa.cons (Xe.var 6) Xa.nil))) Xa.nil))))) (Xe.callM f_Ldraw 0 (Xa.cons (Xe.int 4) Xa.nil))))
    (Xs.app 5 (Xe.tup (Xa.cons (Xe.op oAddS (Xe.str "t") (Xe.cb bStrI (Xa.cons (Xe.var 6) Xa.nil))) (Xa.cons (Xe.var 10) (Xa.cons (Xe.var 7) (Xa.cons (Xe.var 8) Xa.nil))))))))) [6, 7, 8, 10])
    (Xs.ret (Xe.tup (Xa.cons (Xe.var 3) (Xa.cons (Xe.cb bTup (Xa.cons (Xe.var 5) Xa.nil)) Xa.nil))))))))
def f_Lnet : Fn := fnOf 2 11 b_Lnet
theorem ok_Lnet (D : DefAt G.K mg "_law_net" s_Lnet ["_law_purse_here", "_law_sort"]) (B : Bi mg) (c_Ldraw : Cal P w G.K mg base 2 "_law_draw" (spG G.K f_Ldraw)) (c_Leven : Cal P w G.K mg base 3 "_law_even" (spG G.K f_Leven)) (c_Lparts : Cal P w G.K mg base 3 "_law_parts" (spG G.K f_Lparts)) : Cal P w G.K mg base 4 "_law_net" (spG G.K f_Lnet) :=
  DefAt.calG rfl D sc_Lnet (by decide) fun f cdv A outer s H E hr => pss_eq
  (pss_cons (ps_set (i := 2) sc_Lnet.nd rfl (.inr rfl) (pe_slice sl_list (pe_lst (pa_cons pe_str (pa_cons pe_str (pa_cons pe_str (pa_cons pe_str (pa_cons pe_str pa_nil)))))) po_none (po_some (pe_op op_add pe_int (pe_d c_Ldraw hr (by decide) (by rfl) (pa_cons (pv 0) (pa_cons pe_int pa_nil)))))))
    (pss_cons (ps_set (i := 3) sc_Lnet.nd rfl (.inl rfl) (pe_callTy call_tuple_of (by rfl) B.tup PyProof.Rows.boot_tuple (pa_cons (pe_lc (own := [("_law_name", 4)]) (g := Xg.t (Xg.name 4) G) (tt := Xt.t Xt.yes G) (te := Xe.t (Xe.tup (Xa.cons (Xe.var 4) (Xa.cons (Xe.op oDiv (Xe.callM f_Ldraw 0 (Xa.cons (Xe.int 8) Xa.nil)) (Xe.int 3)) Xa.nil))) G) rfl sc_Lnet.nd (pi_list (pv 2)) (blkOk_by (own := [("_law_name", 4)]) (N := n_Lnet) (sc := defScope s_Lnet) (by decide +kernel)) (fun _ _ _ _ _ => (pg_eq (pg_name (i := 4) sc_Lnet.nd rfl (.inl rfl)) rfl)) (fun _ _ _ _ _ => (pts_eq pts_nil rfl)) (fun _ _ _ _ _ => (pe_eq (pe_tup (pa_cons (pv 4) (pa_cons (pe_op op_fdivW (pe_d c_Ldraw hr (by decide) (by rfl) (pa_cons (pv 0) (pa_cons pe_int pa_nil))) pe_int) pa_nil))) rfl))) pa_nil)))
    (pss_cons (ps_set (i := 5) sc_Lnet.nd rfl (.inl rfl) (pe_lst pa_nil))
    (pss_cons (ps_for PassesOwn.never rfl (pi_range1 (by rfl) B.range (pa_cons (pe_op op_add pe_int (pe_d c_Ldraw hr (by decide) (by rfl) (pa_cons (pv 0) (pa_cons pe_int pa_nil)))) pa_nil)) (pg_name (i := 6) sc_Lnet.nd rfl (.inl rfl)) (pss_cons (ps_asg (pe_d c_Leven hr (by decide) (by rfl) (pa_cons (pv 0) (pa_cons (pv 2) pa_nil))) (pg_lst rfl (pgs_cons (pg_name (i := 7) sc_Lnet.nd rfl (.inl rfl)) (pgs_cons (pg_name (i := 8) sc_Lnet.nd rfl (.inl rfl)) pgs_nil))))
    (pss_cons (ps_if (pw_or (pt_cmpR op_eq (pv 1) pe_int (nomark _)) (pw_or1 (pw_and (pt_cmpR op_eq (pv 1) pe_int (nomark _)) (pw_and1 (pt_cmpR op_eq (pe_d c_Ldraw hr (by decide) (by rfl) (pa_cons (pv 0) (pa_cons pe_int pa_nil))) pe_int (nomark _)))).pt)).pt (pss_one (ps_asg (pe_lc (own := [("_law_j", 9)]) (g := Xg.t (Xg.name 9) G) (tt := Xt.t Xt.yes G) (te := Xe.t (Xe.callM f_Lparts 0 (Xa.cons (Xe.var 2) (Xa.cons (Xe.int 3) Xa.nil))) G) rfl sc_Lnet.nd (pi_range1 (by rfl) B.range (pa_cons pe_int pa_nil)) (blkOk_by (own := [("_law_j", 9)]) (N := n_Lnet) (sc := defScope s_Lnet) (by decide +kernel)) (fun _ _ _ _ _ => (pg_eq (pg_name (i := 9) sc_Lnet.nd rfl (.inl rfl)) rfl)) (fun _ _ _ _ _ => (pts_eq pts_nil rfl)) (fun _ _ _ _ _ => (pe_eq (pe_d c_Lparts hr (by decide) (by rfl) (pa_cons (pv 0) (pa_cons (pv 2) (pa_cons pe_int pa_nil)))) rfl))) (pg_lst rfl (pgs_cons (pg_name (i := 7) sc_Lnet.nd rfl (.inl rfl)) (pgs_cons (pg_name (i := 8) sc_Lnet.nd rfl (.inl rfl)) pgs_nil))))) pss_nil)
    (pss_cons (ps_set (i := 10) sc_Lnet.nd rfl (.inl rfl) (pe_ix ix_seq (pe_lst (pa_cons pe_str (pa_cons pe_str (pa_cons pe_str (pa_cons (pe_op op_add_str pe_str (pe_callTy call_str_int (by rfl) B.str PyProof.Rows.boot_str (pa_cons (pv 6) pa_nil))) pa_nil))))) (pe_d c_Ldraw hr (by decide) (by rfl) (pa_cons (pv 0) (pa_cons pe_int pa_nil))) (fun _ _ => rfl)))
    (pss_one (ps_expr (pe_bm PySem.F.plainAttrs_list PySem.F.slot_list_append PySem.F.type_list_append mt_append (pv 5) (pa_cons (pe_tup (pa_cons (pe_op op_add_str pe_str (pe_callTy call_str_int (by rfl) B.str PyProof.Rows.boot_str (pa_cons (pv 6) pa_nil))) (pa_cons (pv 10) (pa_cons (pv 7) (pa_cons (pv 8) pa_nil))))) pa_nil))))))))
    (pss_one (ps_ret (pe_tup (pa_cons (pv 3) (pa_cons (pe_callTy call_tuple_of (by rfl) B.tup PyProof.Rows.boot_tuple (pa_cons (pv 5) pa_nil)) pa_nil))))))))) rfl
end
end Nt

set_option Elab.async false
set_option linter.all false
set_option autoImplicit false
set_option maxRecDepth 100000
set_option maxHeartbeats 4000000
/-! The law's own draws. -/
namespace Nt
open PySem PySem.Spec PyProof.Rows L2 Lw Px
theorem at_is (ns : List Int) (k : Nat) : ∃ n : Int, f_Lat (.seq ns) [.int (k : Int)] = some (.dat (.int n), []) := by
  unfold f_Lat
  rw [fnOf_eq (by rfl)]
  unfold b_Lat
  by_cases hk : k < ns.length
  · have e : (Xe.ixSeq 0 (Xe.var 1)).ev [some (.seq ns), some (.dat (.int (k : Int)))] = some (.int ns[k], [some (.seq ns), some (.dat (.int (k : Int)))]) := by
      have h : atI ns (k : Int) = some ns[k] := by
        unfold atI ixN
        rw [if_pos (by omega), if_pos (by omega)]
        simp [hk]
      exact ixSeq_ev (by rfl) (by rfl) h
    refine ⟨ns[k], ?_⟩
    simp [hk, e]
  · refine ⟨0, ?_⟩
    simp [hk]
theorem mixed_is {b c : Int} (hb : 0 ≤ b ∧ b < 2147483647) (hc : 0 ≤ c ∧ c < 2 ^ 50) : ∃ m : Int, f_Lmixed .no [.int b, .int c] = some (.dat (.int m), []) ∧ 0 ≤ m ∧ m < 2147483587 := by
  unfold f_Lmixed
  rw [fnOf_eq (by rfl)]
  unfold b_Lmixed
  simp
  rw [mul_f (by omega)]
  simp
  rw [mul_f (by omega)]
  simp
  rw [mul_f (by omega)]
  simp
  rw [mod_f (by omega)]
  simp
  generalize hx : (b * 1103515245 + 7919 * c * c + c + 1) % 2147483647 = x
  have h0 : 0 ≤ x := hx ▸ Int.emod_nonneg _ (by decide)
  have h1 : x < 2147483647 := hx ▸ Int.emod_lt_of_pos _ (by decide)
  rw [mul_f (by omega)]
  simp
  rw [mod_f (by omega)]
  simp
  generalize hy : (x * x + 69621) % 2147483629 = y
  have g0 : 0 ≤ y := hy ▸ Int.emod_nonneg _ (by decide)
  have g1 : y < 2147483629 := hy ▸ Int.emod_lt_of_pos _ (by decide)
  rw [mul_f (by omega)]
  simp
  rw [mod_f (by omega)]
  simp
  exact ⟨Int.emod_nonneg _ (by decide), Int.emod_lt_of_pos _ (by decide)⟩
def PurseOk (n : Nat) (bs : List PyData) : Prop := ∃ a b c : Int, bs = [.int a, .int b, .int c] ∧ 0 ≤ b ∧ b < 2147483647 ∧ 0 ≤ c ∧ c + 4 * n < 2 ^ 50
theorem PurseOk.less {n m : Nat} {bs : List PyData} (h : PurseOk n bs) (k : m ≤ n) : PurseOk m bs := by
  obtain ⟨a, b, c, e, h1, h2, h3, h4⟩ := h
  exact ⟨a, b, c, e, h1, h2, h3, by omega⟩
theorem purse_is (ns : List Int) (k : Nat) (hk : k ≤ 100) : ∃ bs, f_Lpurse (.seq ns) [.int (k : Int)] = some (.fr bs, []) ∧ PurseOk 1000000 bs := by
  obtain ⟨n, hn⟩ := at_is ns k
  unfold f_Lpurse
  rw [fnOf_eq (by rfl)]
  unfold b_Lpurse
  have e1 : oPow.f (.int 10) (.int 18) = some (.int (10 ^ 18)) := by
    show (if shD 10 18 = true then some (PyData.int ((10 : Int) ^ (18 : Int).toNat)) else none) = _
    rw [if_pos (by decide)]
    rfl
  have e2 : oPow.f (.int 10) (.int 60) = some (.int (10 ^ 60)) := by
    show (if shD 10 60 = true then some (PyData.int ((10 : Int) ^ (60 : Int).toNat)) else none) = _
    rw [if_pos (by decide)]
    rfl
  have e3 : oPowB.f (.int (10 ^ 60)) (.int 10) = some (.int ((10 ^ 60) ^ 10)) := by
    show (if powBD (10 ^ 60) 10 = true then some (PyData.int ((10 ^ 60 : Int) ^ (10 : Int).toNat)) else none) = _
    rw [if_pos (by decide +kernel)]
    rfl
  simp only [Px.gt_zero, Px.gt_succ, Px.st_zero, Px.st_succ, Px.wp_nil, Px.wp_cons, Px.fz_nil, Px.fz_lst, Px.fz_dat, Px.fz_dct, Px.fz_seq, Px.fz_none, Px.tl_nil, Px.tl_cons, Px.ent_no, Px.ent_own, Px.ent_seq, Px.argN_no, Px.argN_own, Px.argN_seq, Px.endO_rt, Px.endO_nx, Px.endO_rf, Px.endO_srt, Px.endO_srf, Px.endO_ort, Px.endO_onx, Px.int_ev, Px.str_ev, Px.bl_ev, Px.non_ev, Px.var_ev, Px.varE_zd, Px.varE_zl, Px.consV_some, Px.varE_s, Px.op_ev, Px.nil_ev, Px.cons_ev, Px.tup_ev, Px.lst_ev, Px.cb_ev, Px.asB_b, Px.andV_ev, Px.orV_ev, Px.notV_ev, Px.of_ev, Px.and_ev, Px.or_ev, Px.not_ev, Px.yes_ev, Px.ttmp_ev, Px.ifE_ev, Px.tmp_ev, Px.flat_int, Px.flat_str, Px.flat_bool, Px.flat_none, Px.asL_l, Px.asT_t, Px.asI_i, Px.asK_d, Px.ofF_ev, Px.flst_ev, Px.lc_ev, Px.asD_d, Px.asF_f, Px.call_ev, Px.fcall_ev, Px.isi_ev, Px.bits_ev, Px.dget_ev, Px.din_ev, Px.rev_ev, Px.orT_ev, Px.qnone_lo, Px.qsome_lo, Px.sl_ev, Px.slL_f, Px.slT_f, Px.lenSeq_ev, Px.neg_ev, Px.add_f, Px.sub_f, Px.and_f, Px.or_f, Px.lt_f, Px.le_f, Px.gt_f, Px.ge_f, Px.eq_f, Px.ne_f, Px.flatQ_i, Px.flatQ_s, Px.flatQ_b, Px.isN_f, Px.notN_f, Px.ix_list, Px.ix_tuple, Px.len_f, Px.lenT_f, Px.tup_f, Px.tupT_f, Px.lst_f, Px.lstT_f, Px.max_f, Px.min_f, Px.int_f, Px.itList_ev, Px.itTup_ev, Px.itEnumT_ev, Px.itRng1_ev, Px.itVals_ev, Px.name_ev, Px.gtup_ev, Px.glst_ev, Px.stN_nil, Px.stN_cons, Px.seqK_nx, Px.seqK_rt, Px.seqK_rf, Px.seqK_bk, Px.seqK_ct, Px.seq_run, Px.next_run, Px.set_run, Px.setF_run, Px.asg_run, Px.ret_run, Px.retF_run, Px.ifS_run, Px.drop_run, Px.newK_run, Px.par2F_run, Px.forS_run, Px.whileS_run, Px.turnK_nx, Px.turnK_ct, Px.turnK_bk, Px.turnK_rt, Px.turnK_rf, Px.for_nil, Px.lcA_nil, Option.bind_some, List.length_cons, List.length_nil, List.length_map, if_true, reduceCtorEq, List.replicate_succ, List.replicate_zero, Nat.reduceAdd, Nat.reduceSub, Nat.reduceLeDiff]
  rw [callS_ev (ns := ns) (by rfl) (by rfl) hn]
  simp only [Px.gt_zero, Px.gt_succ, Px.st_zero, Px.st_succ, Px.wp_nil, Px.wp_cons, Px.fz_nil, Px.fz_lst, Px.fz_dat, Px.fz_dct, Px.fz_seq, Px.fz_none, Px.tl_nil, Px.tl_cons, Px.ent_no, Px.ent_own, Px.ent_seq, Px.argN_no, Px.argN_own, Px.argN_seq, Px.endO_rt, Px.endO_nx, Px.endO_rf, Px.endO_srt, Px.endO_srf, Px.endO_ort, Px.endO_onx, Px.int_ev, Px.str_ev, Px.bl_ev, Px.non_ev, Px.var_ev, Px.varE_zd, Px.varE_zl, Px.consV_some, Px.varE_s, Px.op_ev, Px.nil_ev, Px.cons_ev, Px.tup_ev, Px.lst_ev, Px.cb_ev, Px.asB_b, Px.andV_ev, Px.orV_ev, Px.notV_ev, Px.of_ev, Px.and_ev, Px.or_ev, Px.not_ev, Px.yes_ev, Px.ttmp_ev, Px.ifE_ev, Px.tmp_ev, Px.flat_int, Px.flat_str, Px.flat_bool, Px.flat_none, Px.asL_l, Px.asT_t, Px.asI_i, Px.asK_d, Px.ofF_ev, Px.flst_ev, Px.lc_ev, Px.asD_d, Px.asF_f, Px.call_ev, Px.fcall_ev, Px.isi_ev, Px.bits_ev, Px.dget_ev, Px.din_ev, Px.rev_ev, Px.orT_ev, Px.qnone_lo, Px.qsome_lo, Px.sl_ev, Px.slL_f, Px.slT_f, Px.lenSeq_ev, Px.neg_ev, Px.add_f, Px.sub_f, Px.and_f, Px.or_f, Px.lt_f, Px.le_f, Px.gt_f, Px.ge_f, Px.eq_f, Px.ne_f, Px.flatQ_i, Px.flatQ_s, Px.flatQ_b, Px.isN_f, Px.notN_f, Px.ix_list, Px.ix_tuple, Px.len_f, Px.lenT_f, Px.tup_f, Px.tupT_f, Px.lst_f, Px.lstT_f, Px.max_f, Px.min_f, Px.int_f, Px.itList_ev, Px.itTup_ev, Px.itEnumT_ev, Px.itRng1_ev, Px.itVals_ev, Px.name_ev, Px.gtup_ev, Px.glst_ev, Px.stN_nil, Px.stN_cons, Px.seqK_nx, Px.seqK_rt, Px.seqK_rf, Px.seqK_bk, Px.seqK_ct, Px.seq_run, Px.next_run, Px.set_run, Px.setF_run, Px.asg_run, Px.ret_run, Px.retF_run, Px.ifS_run, Px.drop_run, Px.newK_run, Px.par2F_run, Px.forS_run, Px.whileS_run, Px.turnK_nx, Px.turnK_ct, Px.turnK_bk, Px.turnK_rt, Px.turnK_rf, Px.for_nil, Px.lcA_nil, Option.bind_some, List.length_cons, List.length_nil, List.length_map, if_true, reduceCtorEq, List.replicate_succ, List.replicate_zero, Nat.reduceAdd, Nat.reduceSub, Nat.reduceLeDiff, e1, e2, e3]
  rw [mod_f (by decide +kernel)]
  simp only [Px.gt_zero, Px.gt_succ, Px.st_zero, Px.st_succ, Px.wp_nil, Px.wp_cons, Px.fz_nil, Px.fz_lst, Px.fz_dat, Px.fz_dct, Px.fz_seq, Px.fz_none, Px.tl_nil, Px.tl_cons, Px.ent_no, Px.ent_own, Px.ent_seq, Px.argN_no, Px.argN_own, Px.argN_seq, Px.endO_rt, Px.endO_nx, Px.endO_rf, Px.endO_srt, Px.endO_srf, Px.endO_ort, Px.endO_onx, Px.int_ev, Px.str_ev, Px.bl_ev, Px.non_ev, Px.var_ev, Px.varE_zd, Px.varE_zl, Px.consV_some, Px.varE_s, Px.op_ev, Px.nil_ev, Px.cons_ev, Px.tup_ev, Px.lst_ev, Px.cb_ev, Px.asB_b, Px.andV_ev, Px.orV_ev, Px.notV_ev, Px.of_ev, Px.and_ev, Px.or_ev, Px.not_ev, Px.yes_ev, Px.ttmp_ev, Px.ifE_ev, Px.tmp_ev, Px.flat_int, Px.flat_str, Px.flat_bool, Px.flat_none, Px.asL_l, Px.asT_t, Px.asI_i, Px.asK_d, Px.ofF_ev, Px.flst_ev, Px.lc_ev, Px.asD_d, Px.asF_f, Px.call_ev, Px.fcall_ev, Px.isi_ev, Px.bits_ev, Px.dget_ev, Px.din_ev, Px.rev_ev, Px.orT_ev, Px.qnone_lo, Px.qsome_lo, Px.sl_ev, Px.slL_f, Px.slT_f, Px.lenSeq_ev, Px.neg_ev, Px.add_f, Px.sub_f, Px.and_f, Px.or_f, Px.lt_f, Px.le_f, Px.gt_f, Px.ge_f, Px.eq_f, Px.ne_f, Px.flatQ_i, Px.flatQ_s, Px.flatQ_b, Px.isN_f, Px.notN_f, Px.ix_list, Px.ix_tuple, Px.len_f, Px.lenT_f, Px.tup_f, Px.tupT_f, Px.lst_f, Px.lstT_f, Px.max_f, Px.min_f, Px.int_f, Px.itList_ev, Px.itTup_ev, Px.itEnumT_ev, Px.itRng1_ev, Px.itVals_ev, Px.name_ev, Px.gtup_ev, Px.glst_ev, Px.stN_nil, Px.stN_cons, Px.seqK_nx, Px.seqK_rt, Px.seqK_rf, Px.seqK_bk, Px.seqK_ct, Px.seq_run, Px.next_run, Px.set_run, Px.setF_run, Px.asg_run, Px.ret_run, Px.retF_run, Px.ifS_run, Px.drop_run, Px.newK_run, Px.par2F_run, Px.forS_run, Px.whileS_run, Px.turnK_nx, Px.turnK_ct, Px.turnK_bk, Px.turnK_rt, Px.turnK_rf, Px.for_nil, Px.lcA_nil, Option.bind_some, List.length_cons, List.length_nil, List.length_map, if_true, reduceCtorEq, List.replicate_succ, List.replicate_zero, Nat.reduceAdd, Nat.reduceSub, Nat.reduceLeDiff]
  rw [mod_f (by decide)]
  simp only [Px.gt_zero, Px.gt_succ, Px.st_zero, Px.st_succ, Px.wp_nil, Px.wp_cons, Px.fz_nil, Px.fz_lst, Px.fz_dat, Px.fz_dct, Px.fz_seq, Px.fz_none, Px.tl_nil, Px.tl_cons, Px.ent_no, Px.ent_own, Px.ent_seq, Px.argN_no, Px.argN_own, Px.argN_seq, Px.endO_rt, Px.endO_nx, Px.endO_rf, Px.endO_srt, Px.endO_srf, Px.endO_ort, Px.endO_onx, Px.int_ev, Px.str_ev, Px.bl_ev, Px.non_ev, Px.var_ev, Px.varE_zd, Px.varE_zl, Px.consV_some, Px.varE_s, Px.op_ev, Px.nil_ev, Px.cons_ev, Px.tup_ev, Px.lst_ev, Px.cb_ev, Px.asB_b, Px.andV_ev, Px.orV_ev, Px.notV_ev, Px.of_ev, Px.and_ev, Px.or_ev, Px.not_ev, Px.yes_ev, Px.ttmp_ev, Px.ifE_ev, Px.tmp_ev, Px.flat_int, Px.flat_str, Px.flat_bool, Px.flat_none, Px.asL_l, Px.asT_t, Px.asI_i, Px.asK_d, Px.ofF_ev, Px.flst_ev, Px.lc_ev, Px.asD_d, Px.asF_f, Px.call_ev, Px.fcall_ev, Px.isi_ev, Px.bits_ev, Px.dget_ev, Px.din_ev, Px.rev_ev, Px.orT_ev, Px.qnone_lo, Px.qsome_lo, Px.sl_ev, Px.slL_f, Px.slT_f, Px.lenSeq_ev, Px.neg_ev, Px.add_f, Px.sub_f, Px.and_f, Px.or_f, Px.lt_f, Px.le_f, Px.gt_f, Px.ge_f, Px.eq_f, Px.ne_f, Px.flatQ_i, Px.flatQ_s, Px.flatQ_b, Px.isN_f, Px.notN_f, Px.ix_list, Px.ix_tuple, Px.len_f, Px.lenT_f, Px.tup_f, Px.tupT_f, Px.lst_f, Px.lstT_f, Px.max_f, Px.min_f, Px.int_f, Px.itList_ev, Px.itTup_ev, Px.itEnumT_ev, Px.itRng1_ev, Px.itVals_ev, Px.name_ev, Px.gtup_ev, Px.glst_ev, Px.stN_nil, Px.stN_cons, Px.seqK_nx, Px.seqK_rt, Px.seqK_rf, Px.seqK_bk, Px.seqK_ct, Px.seq_run, Px.next_run, Px.set_run, Px.setF_run, Px.asg_run, Px.ret_run, Px.retF_run, Px.ifS_run, Px.drop_run, Px.newK_run, Px.par2F_run, Px.forS_run, Px.whileS_run, Px.turnK_nx, Px.turnK_ct, Px.turnK_bk, Px.turnK_rt, Px.turnK_rf, Px.for_nil, Px.lcA_nil, Option.bind_some, List.length_cons, List.length_nil, List.length_map, if_true, reduceCtorEq, List.replicate_succ, List.replicate_zero, Nat.reduceAdd, Nat.reduceSub, Nat.reduceLeDiff]
  rw [mul_f (by decide)]
  simp only [Px.gt_zero, Px.gt_succ, Px.st_zero, Px.st_succ, Px.wp_nil, Px.wp_cons, Px.fz_nil, Px.fz_lst, Px.fz_dat, Px.fz_dct, Px.fz_seq, Px.fz_none, Px.tl_nil, Px.tl_cons, Px.ent_no, Px.ent_own, Px.ent_seq, Px.argN_no, Px.argN_own, Px.argN_seq, Px.endO_rt, Px.endO_nx, Px.endO_rf, Px.endO_srt, Px.endO_srf, Px.endO_ort, Px.endO_onx, Px.int_ev, Px.str_ev, Px.bl_ev, Px.non_ev, Px.var_ev, Px.varE_zd, Px.varE_zl, Px.consV_some, Px.varE_s, Px.op_ev, Px.nil_ev, Px.cons_ev, Px.tup_ev, Px.lst_ev, Px.cb_ev, Px.asB_b, Px.andV_ev, Px.orV_ev, Px.notV_ev, Px.of_ev, Px.and_ev, Px.or_ev, Px.not_ev, Px.yes_ev, Px.ttmp_ev, Px.ifE_ev, Px.tmp_ev, Px.flat_int, Px.flat_str, Px.flat_bool, Px.flat_none, Px.asL_l, Px.asT_t, Px.asI_i, Px.asK_d, Px.ofF_ev, Px.flst_ev, Px.lc_ev, Px.asD_d, Px.asF_f, Px.call_ev, Px.fcall_ev, Px.isi_ev, Px.bits_ev, Px.dget_ev, Px.din_ev, Px.rev_ev, Px.orT_ev, Px.qnone_lo, Px.qsome_lo, Px.sl_ev, Px.slL_f, Px.slT_f, Px.lenSeq_ev, Px.neg_ev, Px.add_f, Px.sub_f, Px.and_f, Px.or_f, Px.lt_f, Px.le_f, Px.gt_f, Px.ge_f, Px.eq_f, Px.ne_f, Px.flatQ_i, Px.flatQ_s, Px.flatQ_b, Px.isN_f, Px.notN_f, Px.ix_list, Px.ix_tuple, Px.len_f, Px.lenT_f, Px.tup_f, Px.tupT_f, Px.lst_f, Px.lstT_f, Px.max_f, Px.min_f, Px.int_f, Px.itList_ev, Px.itTup_ev, Px.itEnumT_ev, Px.itRng1_ev, Px.itVals_ev, Px.name_ev, Px.gtup_ev, Px.glst_ev, Px.stN_nil, Px.stN_cons, Px.seqK_nx, Px.seqK_rt, Px.seqK_rf, Px.seqK_bk, Px.seqK_ct, Px.seq_run, Px.next_run, Px.set_run, Px.setF_run, Px.asg_run, Px.ret_run, Px.retF_run, Px.ifS_run, Px.drop_run, Px.newK_run, Px.par2F_run, Px.forS_run, Px.whileS_run, Px.turnK_nx, Px.turnK_ct, Px.turnK_bk, Px.turnK_rt, Px.turnK_rf, Px.for_nil, Px.lcA_nil, Option.bind_some, List.length_cons, List.length_nil, List.length_map, if_true, reduceCtorEq, List.replicate_succ, List.replicate_zero, Nat.reduceAdd, Nat.reduceSub, Nat.reduceLeDiff]
  refine ⟨_, rfl, _, _, _, rfl, Int.emod_nonneg _ (by decide), Int.emod_lt_of_pos _ (by decide), by omega, ?_⟩
  have : (1000 : Int) * k ≤ 100000 := by omega
  have h2 : (2 : Int) ^ 50 = 1125899906842624 := by decide
  rw [h2]
  omega
theorem at3_0 {x y z : PyData} : atI [x, y, z] 0 = some x := rfl
theorem at3_1 {x y z : PyData} : atI [x, y, z] 1 = some y := rfl
theorem at3_2 {x y z : PyData} : atI [x, y, z] 2 = some z := rfl
theorem draw_loop {b : Int} (hb : 0 ≤ b ∧ b < 2147483647) (a m : PyData) : ∀ (ds : List PyData) (c num : Int), 0 ≤ num → 0 ≤ c → c + ds.length < 2 ^ 50 → (num + 1) * 2147483648 ^ ds.length ≤ 2 ^ 93 →
    ∃ c' num' : Int, forA (Xg.name 4) (Xs.seq (Xs.setI 0 (Xe.int 2) (Xe.tmp (Xe.op oAdd (Xe.tmp (Xe.op oIx (Xe.var 0) (Xe.int 2))) (Xe.int 1))))
      (Xs.set 3 (Xe.tmp (Xe.op oAdd (Xe.op oMul (Xe.var 3) (Xe.int 2147483587)) (Xe.tmp (Xe.call f_Lmixed (Xa.cons (Xe.tmp (Xe.op oIx (Xe.var 0) (Xe.int 1))) (Xa.cons (Xe.tmp (Xe.op oIx (Xe.var 0) (Xe.int 2))) Xa.nil)))))))) [4] ds [some (.lst true [a, .int b, .int c]), some (.dat m), none, some (.dat (.int num)), none] =
      some (.nx [some (.lst true [a, .int b, .int c']), some (.dat m), none, some (.dat (.int num')), none]) ∧ 0 ≤ c' ∧ c' = c + ds.length
  | [], c, num, h0, hc, hl, hn => ⟨c, num, rfl, hc, by simp⟩
  | d :: ds, c, num, h0, hc, hl, hn => by
    have hl' : c + ((ds.length : Int) + 1) < 2 ^ 50 := by simpa using hl
    obtain ⟨x, hx, x0, x1⟩ := mixed_is (c := c + 1) hb ⟨by omega, by omega⟩
    rw [for_cons]
    simp only [name_ev, st_succ, st_zero, Option.bind_some, seq_run]
    rw [setI_run (j := 2) (d := .int (c + 1)) (by simp only [Px.gt_zero, Px.gt_succ, Px.st_zero, Px.st_succ, Px.wp_nil, Px.wp_cons, Px.fz_nil, Px.fz_lst, Px.fz_dat, Px.fz_dct, Px.fz_seq, Px.fz_none, Px.tl_nil, Px.tl_cons, Px.ent_no, Px.ent_own, Px.ent_seq, Px.argN_no, Px.argN_own, Px.argN_seq, Px.endO_rt, Px.endO_nx, Px.endO_rf, Px.endO_srt, Px.endO_srf, Px.endO_ort, Px.endO_onx, Px.int_ev, Px.str_ev, Px.bl_ev, Px.non_ev, Px.var_ev, Px.varE_zd, Px.varE_zl, Px.consV_some, Px.varE_s, Px.op_ev, Px.nil_ev, Px.cons_ev, Px.tup_ev, Px.lst_ev, Px.cb_ev, Px.asB_b, Px.andV_ev, Px.orV_ev, Px.notV_ev, Px.of_ev, Px.and_ev, Px.or_ev, Px.not_ev, Px.yes_ev, Px.ttmp_ev, Px.ifE_ev, Px.tmp_ev, Px.flat_int, Px.flat_str, Px.flat_bool, Px.flat_none, Px.asL_l, Px.asT_t, Px.asI_i, Px.asK_d, Px.ofF_ev, Px.flst_ev, Px.lc_ev, Px.asD_d, Px.asF_f, Px.call_ev, Px.fcall_ev, Px.isi_ev, Px.bits_ev, Px.dget_ev, Px.din_ev, Px.rev_ev, Px.orT_ev, Px.qnone_lo, Px.qsome_lo, Px.sl_ev, Px.slL_f, Px.slT_f, Px.lenSeq_ev, Px.neg_ev, Px.add_f, Px.sub_f, Px.and_f, Px.or_f, Px.lt_f, Px.le_f, Px.gt_f, Px.ge_f, Px.eq_f, Px.ne_f, Px.flatQ_i, Px.flatQ_s, Px.flatQ_b, Px.isN_f, Px.notN_f, Px.ix_list, Px.ix_tuple, Px.len_f, Px.lenT_f, Px.tup_f, Px.tupT_f, Px.lst_f, Px.lstT_f, Px.max_f, Px.min_f, Px.int_f, Px.itList_ev, Px.itTup_ev, Px.itEnumT_ev, Px.itRng1_ev, Px.itVals_ev, Px.name_ev, Px.gtup_ev, Px.glst_ev, Px.stN_nil, Px.stN_cons, Px.seqK_nx, Px.seqK_rt, Px.seqK_rf, Px.seqK_bk, Px.seqK_ct, Px.seq_run, Px.next_run, Px.set_run, Px.setF_run, Px.asg_run, Px.ret_run, Px.retF_run, Px.ifS_run, Px.drop_run, Px.newK_run, Px.par2F_run, Px.forS_run, Px.whileS_run, Px.turnK_nx, Px.turnK_ct, Px.turnK_bk, Px.turnK_rt, Px.turnK_rf, Px.for_nil, Px.lcA_nil, Option.bind_some, List.length_cons, List.length_nil, List.length_map, if_true, reduceCtorEq, List.replicate_succ, List.replicate_zero, Nat.reduceAdd, Nat.reduceSub, Nat.reduceLeDiff, at3_2]; rfl) (by rfl) (by rfl) (by rfl) (by simp)]
    have hpw : (2147483648 : Int) ^ (ds.length + 1) = 2147483648 ^ ds.length * 2147483648 := Int.pow_succ _ _
    have hn' : (num + 1) * (2147483648 ^ ds.length * 2147483648) ≤ 2 ^ 93 := by rw [← hpw]; exact hn
    have hp : (1 : Int) ≤ 2147483648 ^ ds.length := by
      have h : (0 : Int) < 2147483648 ^ ds.length := Int.pow_pos (by decide)
      exact h
    have hmul : (num + 1) * 1 ≤ (num + 1) * 2147483648 ^ ds.length := Int.mul_le_mul_of_nonneg_left hp (by omega)
    have hn2 : ((num + 1) * 2147483648 ^ ds.length) * 2147483648 ≤ 2 ^ 93 := by rw [Int.mul_assoc]; exact hn'
    simp only [Px.gt_zero, Px.gt_succ, Px.st_zero, Px.st_succ, Px.wp_nil, Px.wp_cons, Px.fz_nil, Px.fz_lst, Px.fz_dat, Px.fz_dct, Px.fz_seq, Px.fz_none, Px.tl_nil, Px.tl_cons, Px.ent_no, Px.ent_own, Px.ent_seq, Px.argN_no, Px.argN_own, Px.argN_seq, Px.endO_rt, Px.endO_nx, Px.endO_rf, Px.endO_srt, Px.endO_srf, Px.endO_ort, Px.endO_onx, Px.int_ev, Px.str_ev, Px.bl_ev, Px.non_ev, Px.var_ev, Px.varE_zd, Px.varE_zl, Px.consV_some, Px.varE_s, Px.op_ev, Px.nil_ev, Px.cons_ev, Px.tup_ev, Px.lst_ev, Px.cb_ev, Px.asB_b, Px.andV_ev, Px.orV_ev, Px.notV_ev, Px.of_ev, Px.and_ev, Px.or_ev, Px.not_ev, Px.yes_ev, Px.ttmp_ev, Px.ifE_ev, Px.tmp_ev, Px.flat_int, Px.flat_str, Px.flat_bool, Px.flat_none, Px.asL_l, Px.asT_t, Px.asI_i, Px.asK_d, Px.ofF_ev, Px.flst_ev, Px.lc_ev, Px.asD_d, Px.asF_f, Px.call_ev, Px.fcall_ev, Px.isi_ev, Px.bits_ev, Px.dget_ev, Px.din_ev, Px.rev_ev, Px.orT_ev, Px.qnone_lo, Px.qsome_lo, Px.sl_ev, Px.slL_f, Px.slT_f, Px.lenSeq_ev, Px.neg_ev, Px.add_f, Px.sub_f, Px.and_f, Px.or_f, Px.lt_f, Px.le_f, Px.gt_f, Px.ge_f, Px.eq_f, Px.ne_f, Px.flatQ_i, Px.flatQ_s, Px.flatQ_b, Px.isN_f, Px.notN_f, Px.ix_list, Px.ix_tuple, Px.len_f, Px.lenT_f, Px.tup_f, Px.tupT_f, Px.lst_f, Px.lstT_f, Px.max_f, Px.min_f, Px.int_f, Px.itList_ev, Px.itTup_ev, Px.itEnumT_ev, Px.itRng1_ev, Px.itVals_ev, Px.name_ev, Px.gtup_ev, Px.glst_ev, Px.stN_nil, Px.stN_cons, Px.seqK_nx, Px.seqK_rt, Px.seqK_rf, Px.seqK_bk, Px.seqK_ct, Px.seq_run, Px.next_run, Px.set_run, Px.setF_run, Px.asg_run, Px.ret_run, Px.retF_run, Px.ifS_run, Px.drop_run, Px.newK_run, Px.par2F_run, Px.forS_run, Px.whileS_run, Px.turnK_nx, Px.turnK_ct, Px.turnK_bk, Px.turnK_rt, Px.turnK_rf, Px.for_nil, Px.lcA_nil, Option.bind_some, List.length_cons, List.length_nil, List.length_map, if_true, reduceCtorEq, List.replicate_succ, List.replicate_zero, Nat.reduceAdd, Nat.reduceSub, Nat.reduceLeDiff, List.set_cons_succ, List.set_cons_zero, at3_1, at3_2, hx]
    rw [mul_f (by omega)]
    simp only [Px.gt_zero, Px.gt_succ, Px.st_zero, Px.st_succ, Px.wp_nil, Px.wp_cons, Px.fz_nil, Px.fz_lst, Px.fz_dat, Px.fz_dct, Px.fz_seq, Px.fz_none, Px.tl_nil, Px.tl_cons, Px.ent_no, Px.ent_own, Px.ent_seq, Px.argN_no, Px.argN_own, Px.argN_seq, Px.endO_rt, Px.endO_nx, Px.endO_rf, Px.endO_srt, Px.endO_srf, Px.endO_ort, Px.endO_onx, Px.int_ev, Px.str_ev, Px.bl_ev, Px.non_ev, Px.var_ev, Px.varE_zd, Px.varE_zl, Px.consV_some, Px.varE_s, Px.op_ev, Px.nil_ev, Px.cons_ev, Px.tup_ev, Px.lst_ev, Px.cb_ev, Px.asB_b, Px.andV_ev, Px.orV_ev, Px.notV_ev, Px.of_ev, Px.and_ev, Px.or_ev, Px.not_ev, Px.yes_ev, Px.ttmp_ev, Px.ifE_ev, Px.tmp_ev, Px.flat_int, Px.flat_str, Px.flat_bool, Px.flat_none, Px.asL_l, Px.asT_t, Px.asI_i, Px.asK_d, Px.ofF_ev, Px.flst_ev, Px.lc_ev, Px.asD_d, Px.asF_f, Px.call_ev, Px.fcall_ev, Px.isi_ev, Px.bits_ev, Px.dget_ev, Px.din_ev, Px.rev_ev, Px.orT_ev, Px.qnone_lo, Px.qsome_lo, Px.sl_ev, Px.slL_f, Px.slT_f, Px.lenSeq_ev, Px.neg_ev, Px.add_f, Px.sub_f, Px.and_f, Px.or_f, Px.lt_f, Px.le_f, Px.gt_f, Px.ge_f, Px.eq_f, Px.ne_f, Px.flatQ_i, Px.flatQ_s, Px.flatQ_b, Px.isN_f, Px.notN_f, Px.ix_list, Px.ix_tuple, Px.len_f, Px.lenT_f, Px.tup_f, Px.tupT_f, Px.lst_f, Px.lstT_f, Px.max_f, Px.min_f, Px.int_f, Px.itList_ev, Px.itTup_ev, Px.itEnumT_ev, Px.itRng1_ev, Px.itVals_ev, Px.name_ev, Px.gtup_ev, Px.glst_ev, Px.stN_nil, Px.stN_cons, Px.seqK_nx, Px.seqK_rt, Px.seqK_rf, Px.seqK_bk, Px.seqK_ct, Px.seq_run, Px.next_run, Px.set_run, Px.setF_run, Px.asg_run, Px.ret_run, Px.retF_run, Px.ifS_run, Px.drop_run, Px.newK_run, Px.par2F_run, Px.forS_run, Px.whileS_run, Px.turnK_nx, Px.turnK_ct, Px.turnK_bk, Px.turnK_rt, Px.turnK_rf, Px.for_nil, Px.lcA_nil, Option.bind_some, List.length_cons, List.length_nil, List.length_map, if_true, reduceCtorEq, List.replicate_succ, List.replicate_zero, Nat.reduceAdd, Nat.reduceSub, Nat.reduceLeDiff, at3_1, at3_2, hx]
    obtain ⟨c', num', g1, g2, g3⟩ := draw_loop hb a m ds (c + 1) (num * 2147483587 + x) (by omega) (by omega) (by omega) (by
      have : num * 2147483587 + x + 1 ≤ (num + 1) * 2147483648 := by omega
      have h3 : (num * 2147483587 + x + 1) * 2147483648 ^ ds.length ≤ ((num + 1) * 2147483648) * 2147483648 ^ ds.length := Int.mul_le_mul_of_nonneg_right this (by omega)
      have h4 : ((num + 1) * 2147483648) * 2147483648 ^ ds.length = (num + 1) * (2147483648 ^ ds.length * 2147483648) := by rw [Int.mul_assoc, Int.mul_comm 2147483648]
      omega)
    exact ⟨c', num', g1, g2, by rw [g3]; simp; omega⟩
theorem draw_is {n : Nat} {bs : List PyData} (h : PurseOk (n + 1) bs) {m : Int} (h0 : 0 < m) (h1 : m < 2 ^ 60) : ∃ (d : Int) (bs' : List PyData), f_Ldraw (.own bs) [.int m] = some (.dat (.int d), bs') ∧ 0 ≤ d ∧ d < m ∧ PurseOk n bs' := by
  obtain ⟨a, b, c, rfl, hb0, hb1, hc0, hc1⟩ := h
  have hbits : Builtin.Int.intBits m ≤ 60 := by
    unfold Builtin.Int.intBits
    have e : (m == 0) = false := by
      have : m ≠ 0 := by omega
      simp [this]
    rw [e]
    simp
    have : m.natAbs.log2 < 60 := (Nat.log2_lt (by omega)).mpr (by omega)
    omega
  have hlog : m.natAbs.log2 < 9000 := by
    have : m.natAbs.log2 < 60 := (Nat.log2_lt (by omega)).mpr (by omega)
    omega
  unfold f_Ldraw
  rw [fnOf_eq (by rfl)]
  unfold b_Ldraw
  simp only [Px.gt_zero, Px.gt_succ, Px.st_zero, Px.st_succ, Px.wp_nil, Px.wp_cons, Px.fz_nil, Px.fz_lst, Px.fz_dat, Px.fz_dct, Px.fz_seq, Px.fz_none, Px.tl_nil, Px.tl_cons, Px.ent_no, Px.ent_own, Px.ent_seq, Px.argN_no, Px.argN_own, Px.argN_seq, Px.endO_rt, Px.endO_nx, Px.endO_rf, Px.endO_srt, Px.endO_srf, Px.endO_ort, Px.endO_onx, Px.int_ev, Px.str_ev, Px.bl_ev, Px.non_ev, Px.var_ev, Px.varE_zd, Px.varE_zl, Px.consV_some, Px.varE_s, Px.op_ev, Px.nil_ev, Px.cons_ev, Px.tup_ev, Px.lst_ev, Px.cb_ev, Px.asB_b, Px.andV_ev, Px.orV_ev, Px.notV_ev, Px.of_ev, Px.and_ev, Px.or_ev, Px.not_ev, Px.yes_ev, Px.ttmp_ev, Px.ifE_ev, Px.tmp_ev, Px.flat_int, Px.flat_str, Px.flat_bool, Px.flat_none, Px.asL_l, Px.asT_t, Px.asI_i, Px.asK_d, Px.ofF_ev, Px.flst_ev, Px.lc_ev, Px.asD_d, Px.asF_f, Px.call_ev, Px.fcall_ev, Px.isi_ev, Px.bits_ev, Px.dget_ev, Px.din_ev, Px.rev_ev, Px.orT_ev, Px.qnone_lo, Px.qsome_lo, Px.sl_ev, Px.slL_f, Px.slT_f, Px.lenSeq_ev, Px.neg_ev, Px.add_f, Px.sub_f, Px.and_f, Px.or_f, Px.lt_f, Px.le_f, Px.gt_f, Px.ge_f, Px.eq_f, Px.ne_f, Px.flatQ_i, Px.flatQ_s, Px.flatQ_b, Px.isN_f, Px.notN_f, Px.ix_list, Px.ix_tuple, Px.len_f, Px.lenT_f, Px.tup_f, Px.tupT_f, Px.lst_f, Px.lstT_f, Px.max_f, Px.min_f, Px.int_f, Px.itList_ev, Px.itTup_ev, Px.itEnumT_ev, Px.itRng1_ev, Px.itVals_ev, Px.name_ev, Px.gtup_ev, Px.glst_ev, Px.stN_nil, Px.stN_cons, Px.seqK_nx, Px.seqK_rt, Px.seqK_rf, Px.seqK_bk, Px.seqK_ct, Px.seq_run, Px.next_run, Px.set_run, Px.setF_run, Px.asg_run, Px.ret_run, Px.retF_run, Px.ifS_run, Px.drop_run, Px.newK_run, Px.par2F_run, Px.forS_run, Px.whileS_run, Px.turnK_nx, Px.turnK_ct, Px.turnK_bk, Px.turnK_rt, Px.turnK_rf, Px.for_nil, Px.lcA_nil, Option.bind_some, List.length_cons, List.length_nil, List.length_map, if_true, reduceCtorEq, List.replicate_succ, List.replicate_zero, Nat.reduceAdd, Nat.reduceSub, Nat.reduceLeDiff, at3_0]
  by_cases ha : 0 < a
  · simp only [decide_eq_true ha, Px.gt_zero, Px.gt_succ, Px.st_zero, Px.st_succ, Px.wp_nil, Px.wp_cons, Px.fz_nil, Px.fz_lst, Px.fz_dat, Px.fz_dct, Px.fz_seq, Px.fz_none, Px.tl_nil, Px.tl_cons, Px.ent_no, Px.ent_own, Px.ent_seq, Px.argN_no, Px.argN_own, Px.argN_seq, Px.endO_rt, Px.endO_nx, Px.endO_rf, Px.endO_srt, Px.endO_srf, Px.endO_ort, Px.endO_onx, Px.int_ev, Px.str_ev, Px.bl_ev, Px.non_ev, Px.var_ev, Px.varE_zd, Px.varE_zl, Px.consV_some, Px.varE_s, Px.op_ev, Px.nil_ev, Px.cons_ev, Px.tup_ev, Px.lst_ev, Px.cb_ev, Px.asB_b, Px.andV_ev, Px.orV_ev, Px.notV_ev, Px.of_ev, Px.and_ev, Px.or_ev, Px.not_ev, Px.yes_ev, Px.ttmp_ev, Px.ifE_ev, Px.tmp_ev, Px.flat_int, Px.flat_str, Px.flat_bool, Px.flat_none, Px.asL_l, Px.asT_t, Px.asI_i, Px.asK_d, Px.ofF_ev, Px.flst_ev, Px.lc_ev, Px.asD_d, Px.asF_f, Px.call_ev, Px.fcall_ev, Px.isi_ev, Px.bits_ev, Px.dget_ev, Px.din_ev, Px.rev_ev, Px.orT_ev, Px.qnone_lo, Px.qsome_lo, Px.sl_ev, Px.slL_f, Px.slT_f, Px.lenSeq_ev, Px.neg_ev, Px.add_f, Px.sub_f, Px.and_f, Px.or_f, Px.lt_f, Px.le_f, Px.gt_f, Px.ge_f, Px.eq_f, Px.ne_f, Px.flatQ_i, Px.flatQ_s, Px.flatQ_b, Px.isN_f, Px.notN_f, Px.ix_list, Px.ix_tuple, Px.len_f, Px.lenT_f, Px.tup_f, Px.tupT_f, Px.lst_f, Px.lstT_f, Px.max_f, Px.min_f, Px.int_f, Px.itList_ev, Px.itTup_ev, Px.itEnumT_ev, Px.itRng1_ev, Px.itVals_ev, Px.name_ev, Px.gtup_ev, Px.glst_ev, Px.stN_nil, Px.stN_cons, Px.seqK_nx, Px.seqK_rt, Px.seqK_rf, Px.seqK_bk, Px.seqK_ct, Px.seq_run, Px.next_run, Px.set_run, Px.setF_run, Px.asg_run, Px.ret_run, Px.retF_run, Px.ifS_run, Px.drop_run, Px.newK_run, Px.par2F_run, Px.forS_run, Px.whileS_run, Px.turnK_nx, Px.turnK_ct, Px.turnK_bk, Px.turnK_rt, Px.turnK_rf, Px.for_nil, Px.lcA_nil, Option.bind_some, List.length_cons, List.length_nil, List.length_map, if_true, reduceCtorEq, List.replicate_succ, List.replicate_zero, Nat.reduceAdd, Nat.reduceSub, Nat.reduceLeDiff, at3_0, mod_f h0]
    rw [setI_run (j := 0) (d := .int (a / m)) (by simp only [Px.gt_zero, Px.gt_succ, Px.st_zero, Px.st_succ, Px.wp_nil, Px.wp_cons, Px.fz_nil, Px.fz_lst, Px.fz_dat, Px.fz_dct, Px.fz_seq, Px.fz_none, Px.tl_nil, Px.tl_cons, Px.ent_no, Px.ent_own, Px.ent_seq, Px.argN_no, Px.argN_own, Px.argN_seq, Px.endO_rt, Px.endO_nx, Px.endO_rf, Px.endO_srt, Px.endO_srf, Px.endO_ort, Px.endO_onx, Px.int_ev, Px.str_ev, Px.bl_ev, Px.non_ev, Px.var_ev, Px.varE_zd, Px.varE_zl, Px.consV_some, Px.varE_s, Px.op_ev, Px.nil_ev, Px.cons_ev, Px.tup_ev, Px.lst_ev, Px.cb_ev, Px.asB_b, Px.andV_ev, Px.orV_ev, Px.notV_ev, Px.of_ev, Px.and_ev, Px.or_ev, Px.not_ev, Px.yes_ev, Px.ttmp_ev, Px.ifE_ev, Px.tmp_ev, Px.flat_int, Px.flat_str, Px.flat_bool, Px.flat_none, Px.asL_l, Px.asT_t, Px.asI_i, Px.asK_d, Px.ofF_ev, Px.flst_ev, Px.lc_ev, Px.asD_d, Px.asF_f, Px.call_ev, Px.fcall_ev, Px.isi_ev, Px.bits_ev, Px.dget_ev, Px.din_ev, Px.rev_ev, Px.orT_ev, Px.qnone_lo, Px.qsome_lo, Px.sl_ev, Px.slL_f, Px.slT_f, Px.lenSeq_ev, Px.neg_ev, Px.add_f, Px.sub_f, Px.and_f, Px.or_f, Px.lt_f, Px.le_f, Px.gt_f, Px.ge_f, Px.eq_f, Px.ne_f, Px.flatQ_i, Px.flatQ_s, Px.flatQ_b, Px.isN_f, Px.notN_f, Px.ix_list, Px.ix_tuple, Px.len_f, Px.lenT_f, Px.tup_f, Px.tupT_f, Px.lst_f, Px.lstT_f, Px.max_f, Px.min_f, Px.int_f, Px.itList_ev, Px.itTup_ev, Px.itEnumT_ev, Px.itRng1_ev, Px.itVals_ev, Px.name_ev, Px.gtup_ev, Px.glst_ev, Px.stN_nil, Px.stN_cons, Px.seqK_nx, Px.seqK_rt, Px.seqK_rf, Px.seqK_bk, Px.seqK_ct, Px.seq_run, Px.next_run, Px.set_run, Px.setF_run, Px.asg_run, Px.ret_run, Px.retF_run, Px.ifS_run, Px.drop_run, Px.newK_run, Px.par2F_run, Px.forS_run, Px.whileS_run, Px.turnK_nx, Px.turnK_ct, Px.turnK_bk, Px.turnK_rt, Px.turnK_rf, Px.for_nil, Px.lcA_nil, Option.bind_some, List.length_cons, List.length_nil, List.length_map, if_true, reduceCtorEq, List.replicate_succ, List.replicate_zero, Nat.reduceAdd, Nat.reduceSub, Nat.reduceLeDiff, at3_0, div_f ⟨h0, hlog⟩]; rfl) (by rfl) (by rfl) (by rfl) (by simp)]
    simp only [Px.gt_zero, Px.gt_succ, Px.st_zero, Px.st_succ, Px.wp_nil, Px.wp_cons, Px.fz_nil, Px.fz_lst, Px.fz_dat, Px.fz_dct, Px.fz_seq, Px.fz_none, Px.tl_nil, Px.tl_cons, Px.ent_no, Px.ent_own, Px.ent_seq, Px.argN_no, Px.argN_own, Px.argN_seq, Px.endO_rt, Px.endO_nx, Px.endO_rf, Px.endO_srt, Px.endO_srf, Px.endO_ort, Px.endO_onx, Px.int_ev, Px.str_ev, Px.bl_ev, Px.non_ev, Px.var_ev, Px.varE_zd, Px.varE_zl, Px.consV_some, Px.varE_s, Px.op_ev, Px.nil_ev, Px.cons_ev, Px.tup_ev, Px.lst_ev, Px.cb_ev, Px.asB_b, Px.andV_ev, Px.orV_ev, Px.notV_ev, Px.of_ev, Px.and_ev, Px.or_ev, Px.not_ev, Px.yes_ev, Px.ttmp_ev, Px.ifE_ev, Px.tmp_ev, Px.flat_int, Px.flat_str, Px.flat_bool, Px.flat_none, Px.asL_l, Px.asT_t, Px.asI_i, Px.asK_d, Px.ofF_ev, Px.flst_ev, Px.lc_ev, Px.asD_d, Px.asF_f, Px.call_ev, Px.fcall_ev, Px.isi_ev, Px.bits_ev, Px.dget_ev, Px.din_ev, Px.rev_ev, Px.orT_ev, Px.qnone_lo, Px.qsome_lo, Px.sl_ev, Px.slL_f, Px.slT_f, Px.lenSeq_ev, Px.neg_ev, Px.add_f, Px.sub_f, Px.and_f, Px.or_f, Px.lt_f, Px.le_f, Px.gt_f, Px.ge_f, Px.eq_f, Px.ne_f, Px.flatQ_i, Px.flatQ_s, Px.flatQ_b, Px.isN_f, Px.notN_f, Px.ix_list, Px.ix_tuple, Px.len_f, Px.lenT_f, Px.tup_f, Px.tupT_f, Px.lst_f, Px.lstT_f, Px.max_f, Px.min_f, Px.int_f, Px.itList_ev, Px.itTup_ev, Px.itEnumT_ev, Px.itRng1_ev, Px.itVals_ev, Px.name_ev, Px.gtup_ev, Px.glst_ev, Px.stN_nil, Px.stN_cons, Px.seqK_nx, Px.seqK_rt, Px.seqK_rf, Px.seqK_bk, Px.seqK_ct, Px.seq_run, Px.next_run, Px.set_run, Px.setF_run, Px.asg_run, Px.ret_run, Px.retF_run, Px.ifS_run, Px.drop_run, Px.newK_run, Px.par2F_run, Px.forS_run, Px.whileS_run, Px.turnK_nx, Px.turnK_ct, Px.turnK_bk, Px.turnK_rt, Px.turnK_rf, Px.for_nil, Px.lcA_nil, Option.bind_some, List.length_cons, List.length_nil, List.length_map, if_true, reduceCtorEq, List.replicate_succ, List.replicate_zero, Nat.reduceAdd, Nat.reduceSub, Nat.reduceLeDiff, List.set_cons_zero]
    exact ⟨a % m, _, rfl, Int.emod_nonneg _ (by omega), Int.emod_lt_of_pos _ h0, _, _, _, rfl, hb0, hb1, hc0, by omega⟩
  · simp only [decide_eq_false ha, Bool.false_eq_true, if_false, Px.gt_zero, Px.gt_succ, Px.st_zero, Px.st_succ, Px.wp_nil, Px.wp_cons, Px.fz_nil, Px.fz_lst, Px.fz_dat, Px.fz_dct, Px.fz_seq, Px.fz_none, Px.tl_nil, Px.tl_cons, Px.ent_no, Px.ent_own, Px.ent_seq, Px.argN_no, Px.argN_own, Px.argN_seq, Px.endO_rt, Px.endO_nx, Px.endO_rf, Px.endO_srt, Px.endO_srf, Px.endO_ort, Px.endO_onx, Px.int_ev, Px.str_ev, Px.bl_ev, Px.non_ev, Px.var_ev, Px.varE_zd, Px.varE_zl, Px.consV_some, Px.varE_s, Px.op_ev, Px.nil_ev, Px.cons_ev, Px.tup_ev, Px.lst_ev, Px.cb_ev, Px.asB_b, Px.andV_ev, Px.orV_ev, Px.notV_ev, Px.of_ev, Px.and_ev, Px.or_ev, Px.not_ev, Px.yes_ev, Px.ttmp_ev, Px.ifE_ev, Px.tmp_ev, Px.flat_int, Px.flat_str, Px.flat_bool, Px.flat_none, Px.asL_l, Px.asT_t, Px.asI_i, Px.asK_d, Px.ofF_ev, Px.flst_ev, Px.lc_ev, Px.asD_d, Px.asF_f, Px.call_ev, Px.fcall_ev, Px.isi_ev, Px.bits_ev, Px.dget_ev, Px.din_ev, Px.rev_ev, Px.orT_ev, Px.qnone_lo, Px.qsome_lo, Px.sl_ev, Px.slL_f, Px.slT_f, Px.lenSeq_ev, Px.neg_ev, Px.add_f, Px.sub_f, Px.and_f, Px.or_f, Px.lt_f, Px.le_f, Px.gt_f, Px.ge_f, Px.eq_f, Px.ne_f, Px.flatQ_i, Px.flatQ_s, Px.flatQ_b, Px.isN_f, Px.notN_f, Px.ix_list, Px.ix_tuple, Px.len_f, Px.lenT_f, Px.tup_f, Px.tupT_f, Px.lst_f, Px.lstT_f, Px.max_f, Px.min_f, Px.int_f, Px.itList_ev, Px.itTup_ev, Px.itEnumT_ev, Px.itRng1_ev, Px.itVals_ev, Px.name_ev, Px.gtup_ev, Px.glst_ev, Px.stN_nil, Px.stN_cons, Px.seqK_nx, Px.seqK_rt, Px.seqK_rf, Px.seqK_bk, Px.seqK_ct, Px.seq_run, Px.next_run, Px.set_run, Px.setF_run, Px.asg_run, Px.ret_run, Px.retF_run, Px.ifS_run, Px.drop_run, Px.newK_run, Px.par2F_run, Px.forS_run, Px.whileS_run, Px.turnK_nx, Px.turnK_ct, Px.turnK_bk, Px.turnK_rt, Px.turnK_rf, Px.for_nil, Px.lcA_nil, Option.bind_some, List.length_cons, List.length_nil, List.length_map, if_true, reduceCtorEq, List.replicate_succ, List.replicate_zero, Nat.reduceAdd, Nat.reduceSub, Nat.reduceLeDiff]
    rw [div_f (by decide)]
    simp only [Px.gt_zero, Px.gt_succ, Px.st_zero, Px.st_succ, Px.wp_nil, Px.wp_cons, Px.fz_nil, Px.fz_lst, Px.fz_dat, Px.fz_dct, Px.fz_seq, Px.fz_none, Px.tl_nil, Px.tl_cons, Px.ent_no, Px.ent_own, Px.ent_seq, Px.argN_no, Px.argN_own, Px.argN_seq, Px.endO_rt, Px.endO_nx, Px.endO_rf, Px.endO_srt, Px.endO_srf, Px.endO_ort, Px.endO_onx, Px.int_ev, Px.str_ev, Px.bl_ev, Px.non_ev, Px.var_ev, Px.varE_zd, Px.varE_zl, Px.consV_some, Px.varE_s, Px.op_ev, Px.nil_ev, Px.cons_ev, Px.tup_ev, Px.lst_ev, Px.cb_ev, Px.asB_b, Px.andV_ev, Px.orV_ev, Px.notV_ev, Px.of_ev, Px.and_ev, Px.or_ev, Px.not_ev, Px.yes_ev, Px.ttmp_ev, Px.ifE_ev, Px.tmp_ev, Px.flat_int, Px.flat_str, Px.flat_bool, Px.flat_none, Px.asL_l, Px.asT_t, Px.asI_i, Px.asK_d, Px.ofF_ev, Px.flst_ev, Px.lc_ev, Px.asD_d, Px.asF_f, Px.call_ev, Px.fcall_ev, Px.isi_ev, Px.bits_ev, Px.dget_ev, Px.din_ev, Px.rev_ev, Px.orT_ev, Px.qnone_lo, Px.qsome_lo, Px.sl_ev, Px.slL_f, Px.slT_f, Px.lenSeq_ev, Px.neg_ev, Px.add_f, Px.sub_f, Px.and_f, Px.or_f, Px.lt_f, Px.le_f, Px.gt_f, Px.ge_f, Px.eq_f, Px.ne_f, Px.flatQ_i, Px.flatQ_s, Px.flatQ_b, Px.isN_f, Px.notN_f, Px.ix_list, Px.ix_tuple, Px.len_f, Px.lenT_f, Px.tup_f, Px.tupT_f, Px.lst_f, Px.lstT_f, Px.max_f, Px.min_f, Px.int_f, Px.itList_ev, Px.itTup_ev, Px.itEnumT_ev, Px.itRng1_ev, Px.itVals_ev, Px.name_ev, Px.gtup_ev, Px.glst_ev, Px.stN_nil, Px.stN_cons, Px.seqK_nx, Px.seqK_rt, Px.seqK_rf, Px.seqK_bk, Px.seqK_ct, Px.seq_run, Px.next_run, Px.set_run, Px.setF_run, Px.asg_run, Px.ret_run, Px.retF_run, Px.ifS_run, Px.drop_run, Px.newK_run, Px.par2F_run, Px.forS_run, Px.whileS_run, Px.turnK_nx, Px.turnK_ct, Px.turnK_bk, Px.turnK_rt, Px.turnK_rf, Px.for_nil, Px.lcA_nil, Option.bind_some, List.length_cons, List.length_nil, List.length_map, if_true, reduceCtorEq, List.replicate_succ, List.replicate_zero, Nat.reduceAdd, Nat.reduceSub, Nat.reduceLeDiff]
    generalize hB : (Builtin.Int.intBits m : Nat) = B at *
    have hr : (1 + (B : Int) / 30) ≤ 100000 ∧ -100000 ≤ 1 + (B : Int) / 30 := by omega
    rw [if_pos hr]
    simp only [Px.gt_zero, Px.gt_succ, Px.st_zero, Px.st_succ, Px.wp_nil, Px.wp_cons, Px.fz_nil, Px.fz_lst, Px.fz_dat, Px.fz_dct, Px.fz_seq, Px.fz_none, Px.tl_nil, Px.tl_cons, Px.ent_no, Px.ent_own, Px.ent_seq, Px.argN_no, Px.argN_own, Px.argN_seq, Px.endO_rt, Px.endO_nx, Px.endO_rf, Px.endO_srt, Px.endO_srf, Px.endO_ort, Px.endO_onx, Px.int_ev, Px.str_ev, Px.bl_ev, Px.non_ev, Px.var_ev, Px.varE_zd, Px.varE_zl, Px.consV_some, Px.varE_s, Px.op_ev, Px.nil_ev, Px.cons_ev, Px.tup_ev, Px.lst_ev, Px.cb_ev, Px.asB_b, Px.andV_ev, Px.orV_ev, Px.notV_ev, Px.of_ev, Px.and_ev, Px.or_ev, Px.not_ev, Px.yes_ev, Px.ttmp_ev, Px.ifE_ev, Px.tmp_ev, Px.flat_int, Px.flat_str, Px.flat_bool, Px.flat_none, Px.asL_l, Px.asT_t, Px.asI_i, Px.asK_d, Px.ofF_ev, Px.flst_ev, Px.lc_ev, Px.asD_d, Px.asF_f, Px.call_ev, Px.fcall_ev, Px.isi_ev, Px.bits_ev, Px.dget_ev, Px.din_ev, Px.rev_ev, Px.orT_ev, Px.qnone_lo, Px.qsome_lo, Px.sl_ev, Px.slL_f, Px.slT_f, Px.lenSeq_ev, Px.neg_ev, Px.add_f, Px.sub_f, Px.and_f, Px.or_f, Px.lt_f, Px.le_f, Px.gt_f, Px.ge_f, Px.eq_f, Px.ne_f, Px.flatQ_i, Px.flatQ_s, Px.flatQ_b, Px.isN_f, Px.notN_f, Px.ix_list, Px.ix_tuple, Px.len_f, Px.lenT_f, Px.tup_f, Px.tupT_f, Px.lst_f, Px.lstT_f, Px.max_f, Px.min_f, Px.int_f, Px.itList_ev, Px.itTup_ev, Px.itEnumT_ev, Px.itRng1_ev, Px.itVals_ev, Px.name_ev, Px.gtup_ev, Px.glst_ev, Px.stN_nil, Px.stN_cons, Px.seqK_nx, Px.seqK_rt, Px.seqK_rf, Px.seqK_bk, Px.seqK_ct, Px.seq_run, Px.next_run, Px.set_run, Px.setF_run, Px.asg_run, Px.ret_run, Px.retF_run, Px.ifS_run, Px.drop_run, Px.newK_run, Px.par2F_run, Px.forS_run, Px.whileS_run, Px.turnK_nx, Px.turnK_ct, Px.turnK_bk, Px.turnK_rt, Px.turnK_rf, Px.for_nil, Px.lcA_nil, Option.bind_some, List.length_cons, List.length_nil, List.length_map, if_true, reduceCtorEq, List.replicate_succ, List.replicate_zero, Nat.reduceAdd, Nat.reduceSub, Nat.reduceLeDiff]
    have hlen : (intsD 0 (1 + (B : Int) / 30).toNat).length ≤ 3 := by rw [intsD_len]; omega
    obtain ⟨c', num', g1, g2, g3⟩ := draw_loop ⟨hb0, hb1⟩ (.int a) (.int m) (intsD 0 (1 + (B : Int) / 30).toNat) c 0 (by omega) hc0 (by omega) (by
      have : (intsD 0 (1 + (B : Int) / 30).toNat).length = 0 ∨ (intsD 0 (1 + (B : Int) / 30).toNat).length = 1 ∨ (intsD 0 (1 + (B : Int) / 30).toNat).length = 2 ∨ (intsD 0 (1 + (B : Int) / 30).toNat).length = 3 := by omega
      rcases this with e | e | e | e <;> rw [e] <;> decide)
    rw [g1]
    simp only [Px.gt_zero, Px.gt_succ, Px.st_zero, Px.st_succ, Px.wp_nil, Px.wp_cons, Px.fz_nil, Px.fz_lst, Px.fz_dat, Px.fz_dct, Px.fz_seq, Px.fz_none, Px.tl_nil, Px.tl_cons, Px.ent_no, Px.ent_own, Px.ent_seq, Px.argN_no, Px.argN_own, Px.argN_seq, Px.endO_rt, Px.endO_nx, Px.endO_rf, Px.endO_srt, Px.endO_srf, Px.endO_ort, Px.endO_onx, Px.int_ev, Px.str_ev, Px.bl_ev, Px.non_ev, Px.var_ev, Px.varE_zd, Px.varE_zl, Px.consV_some, Px.varE_s, Px.op_ev, Px.nil_ev, Px.cons_ev, Px.tup_ev, Px.lst_ev, Px.cb_ev, Px.asB_b, Px.andV_ev, Px.orV_ev, Px.notV_ev, Px.of_ev, Px.and_ev, Px.or_ev, Px.not_ev, Px.yes_ev, Px.ttmp_ev, Px.ifE_ev, Px.tmp_ev, Px.flat_int, Px.flat_str, Px.flat_bool, Px.flat_none, Px.asL_l, Px.asT_t, Px.asI_i, Px.asK_d, Px.ofF_ev, Px.flst_ev, Px.lc_ev, Px.asD_d, Px.asF_f, Px.call_ev, Px.fcall_ev, Px.isi_ev, Px.bits_ev, Px.dget_ev, Px.din_ev, Px.rev_ev, Px.orT_ev, Px.qnone_lo, Px.qsome_lo, Px.sl_ev, Px.slL_f, Px.slT_f, Px.lenSeq_ev, Px.neg_ev, Px.add_f, Px.sub_f, Px.and_f, Px.or_f, Px.lt_f, Px.le_f, Px.gt_f, Px.ge_f, Px.eq_f, Px.ne_f, Px.flatQ_i, Px.flatQ_s, Px.flatQ_b, Px.isN_f, Px.notN_f, Px.ix_list, Px.ix_tuple, Px.len_f, Px.lenT_f, Px.tup_f, Px.tupT_f, Px.lst_f, Px.lstT_f, Px.max_f, Px.min_f, Px.int_f, Px.itList_ev, Px.itTup_ev, Px.itEnumT_ev, Px.itRng1_ev, Px.itVals_ev, Px.name_ev, Px.gtup_ev, Px.glst_ev, Px.stN_nil, Px.stN_cons, Px.seqK_nx, Px.seqK_rt, Px.seqK_rf, Px.seqK_bk, Px.seqK_ct, Px.seq_run, Px.next_run, Px.set_run, Px.setF_run, Px.asg_run, Px.ret_run, Px.retF_run, Px.ifS_run, Px.drop_run, Px.newK_run, Px.par2F_run, Px.forS_run, Px.whileS_run, Px.turnK_nx, Px.turnK_ct, Px.turnK_bk, Px.turnK_rt, Px.turnK_rf, Px.for_nil, Px.lcA_nil, Option.bind_some, List.length_cons, List.length_nil, List.length_map, if_true, reduceCtorEq, List.replicate_succ, List.replicate_zero, Nat.reduceAdd, Nat.reduceSub, Nat.reduceLeDiff, mod_f h0]
    exact ⟨num' % m, _, rfl, Int.emod_nonneg _ (by omega), Int.emod_lt_of_pos _ h0, _, _, _, rfl, hb0, hb1, g2, by omega⟩
/-- a draw from the purse at slot 0 -/
theorem draw_ev {b : Bool} {bs bs' : List PyData} {r a' : AE} {x : Xe} {m d : Int} (hx : x.ev (some (.lst b bs) :: r) = some (.int m, some (.lst b bs) :: a')) (h : f_Ldraw (.own bs) [.int m] = some (.dat (.int d), bs')) :
    (Xe.callM f_Ldraw 0 (Xa.cons x Xa.nil)).ev (some (.lst b bs) :: r) = some (.int d, some (.lst b bs') :: a') := by
  have hxs : (Xa.cons x Xa.nil).ev (some (.lst b bs) :: r) = some ([.int m], some (.lst b bs) :: a') := by
    simp only [Px.gt_zero, Px.gt_succ, Px.st_zero, Px.st_succ, Px.wp_nil, Px.wp_cons, Px.fz_nil, Px.fz_lst, Px.fz_dat, Px.fz_dct, Px.fz_seq, Px.fz_none, Px.tl_nil, Px.tl_cons, Px.ent_no, Px.ent_own, Px.ent_seq, Px.argN_no, Px.argN_own, Px.argN_seq, Px.endO_rt, Px.endO_nx, Px.endO_rf, Px.endO_srt, Px.endO_srf, Px.endO_ort, Px.endO_onx, Px.int_ev, Px.str_ev, Px.bl_ev, Px.non_ev, Px.var_ev, Px.varE_zd, Px.varE_zl, Px.consV_some, Px.varE_s, Px.op_ev, Px.nil_ev, Px.cons_ev, Px.tup_ev, Px.lst_ev, Px.cb_ev, Px.asB_b, Px.andV_ev, Px.orV_ev, Px.notV_ev, Px.of_ev, Px.and_ev, Px.or_ev, Px.not_ev, Px.yes_ev, Px.ttmp_ev, Px.ifE_ev, Px.tmp_ev, Px.flat_int, Px.flat_str, Px.flat_bool, Px.flat_none, Px.asL_l, Px.asT_t, Px.asI_i, Px.asK_d, Px.ofF_ev, Px.flst_ev, Px.lc_ev, Px.asD_d, Px.asF_f, Px.call_ev, Px.fcall_ev, Px.isi_ev, Px.bits_ev, Px.dget_ev, Px.din_ev, Px.rev_ev, Px.orT_ev, Px.qnone_lo, Px.qsome_lo, Px.sl_ev, Px.slL_f, Px.slT_f, Px.lenSeq_ev, Px.neg_ev, Px.add_f, Px.sub_f, Px.and_f, Px.or_f, Px.lt_f, Px.le_f, Px.gt_f, Px.ge_f, Px.eq_f, Px.ne_f, Px.flatQ_i, Px.flatQ_s, Px.flatQ_b, Px.isN_f, Px.notN_f, Px.ix_list, Px.ix_tuple, Px.len_f, Px.lenT_f, Px.tup_f, Px.tupT_f, Px.lst_f, Px.lstT_f, Px.max_f, Px.min_f, Px.int_f, Px.itList_ev, Px.itTup_ev, Px.itEnumT_ev, Px.itRng1_ev, Px.itVals_ev, Px.name_ev, Px.gtup_ev, Px.glst_ev, Px.stN_nil, Px.stN_cons, Px.seqK_nx, Px.seqK_rt, Px.seqK_rf, Px.seqK_bk, Px.seqK_ct, Px.seq_run, Px.next_run, Px.set_run, Px.setF_run, Px.asg_run, Px.ret_run, Px.retF_run, Px.ifS_run, Px.drop_run, Px.newK_run, Px.par2F_run, Px.forS_run, Px.whileS_run, Px.turnK_nx, Px.turnK_ct, Px.turnK_bk, Px.turnK_rt, Px.turnK_rf, Px.for_nil, Px.lcA_nil, Option.bind_some, List.length_cons, List.length_nil, List.length_map, if_true, reduceCtorEq, List.replicate_succ, List.replicate_zero, Nat.reduceAdd, Nat.reduceSub, Nat.reduceLeDiff, hx]
  exact callM_ev (i := 0) (b0 := b) (ds := bs) rfl hxs rfl h
theorem draw_int {b : Bool} {bs bs' : List PyData} {r : AE} {m d : Int} (h : f_Ldraw (.own bs) [.int m] = some (.dat (.int d), bs')) : (Xe.callM f_Ldraw 0 (Xa.cons (Xe.int m) Xa.nil)).ev (some (.lst b bs) :: r) = some (.int d, some (.lst b bs') :: r) := draw_ev rfl h
end Nt

set_option Elab.async false
set_option linter.all false
set_option autoImplicit false
set_option maxRecDepth 100000
set_option maxHeartbeats 4000000
/-! Nets as data, by their parts: what is one. -/
namespace Nt
open PySem PySem.Spec PyProof.Rows L2 Lw Px
def ix (z : Str) : List Str → Nat
  | [] => 0
  | y :: ys => if y = z then 0 else ix z ys + 1
theorem ix_get {z : Str} : ∀ {l : List Str}, z ∈ l → l[ix z l]? = some z
  | y :: ys, h => by
    unfold ix
    split
    · rename_i e
      subst e
      rfl
    · rename_i e
      rw [List.getElem?_cons_succ]
      exact ix_get ((List.mem_cons.mp h).resolve_left fun e' => e e'.symm)
theorem ix_first {z y : Str} : ∀ {l : List Str} {m : Nat}, m < ix z l → l[m]? = some y → y ≠ z
  | x :: xs, m, h, e => by
    unfold ix at h
    split at h
    · exact absurd h (Nat.not_lt_zero _)
    · rename_i hx
      cases m with
      | zero =>
        cases e
        exact hx
      | succ m => exact ix_first (l := xs) (m := m) (by omega) (by simpa using e)
theorem pairsD_cons (k0 : Int) (p : PyData) (ps : List PyData) : pairsD k0 (p :: ps) = .tuple [.int k0, p] :: pairsD (k0 + 1) ps := by
  unfold pairsD
  rw [List.mapIdx_cons]
  congr 1
  · simp
  · congr 1
    funext i d
    rw [show k0 + ((i + 1 : Nat) : Int) = k0 + 1 + (i : Int) by omega]
theorem num_all : ∀ (ps : List PyData) (k0 : Int) (acc : List (Key × V)) (z : Str), (ps.map nameD).Nodup →
    valV ((pairsD k0 ps).foldl (fun acc d => putK acc (keyD d) (toV (itemD d 0))) acc) (.inr z : Key) = if z ∈ ps.map nameD then some (.int (k0 + (ix z (ps.map nameD) : Int))) else valV acc (.inr z : Key)
  | [], _, _, z, _ => by simp [pairsD]
  | p :: ps, k0, acc, z, h => by
    rw [pairsD_cons, List.foldl_cons, num_all ps (k0 + 1) _ z (List.nodup_cons.mp h).2]
    have hp : nameD p ∉ ps.map nameD := (List.nodup_cons.mp h).1
    rw [show keyD (.tuple [.int k0, p]) = (.inr (nameD p) : Key) from rfl, show toV (itemD (.tuple [.int k0, p]) 0) = V.int k0 from rfl, List.map_cons]
    by_cases hz : z ∈ ps.map nameD
    · have hne : nameD p ≠ z := fun e => hp (e ▸ hz)
      rw [if_pos hz, if_pos (List.mem_cons_of_mem _ hz)]
      have hx : ix z (nameD p :: ps.map nameD) = ix z (ps.map nameD) + 1 := if_neg hne
      rw [hx]
      congr 2
      omega
    · rw [if_neg hz, valV_put]
      by_cases hq : nameD p = z
      · subst hq
        rw [if_pos rfl, if_pos List.mem_cons_self]
        unfold ix
        rw [if_pos rfl]
        simp
      · rw [if_neg (fun e => hq (by injection e with e; exact e.symm)), if_neg fun e => by
          rcases List.mem_cons.mp e with e | e
          · exact hq e.symm
          · exact hz e]
def numL (nms : List Str) (z : Str) : Option Int := if z ∈ nms then some (ix z nms : Int) else none
theorem num_is {ps : List PyData} (h : (ps.map nameD).Nodup) (z : Str) : numOf (numKv ps) z = numL (ps.map nameD) z := by
  unfold numOf numKv dictOfD numL
  rw [num_all ps 0 [] z h]
  by_cases hz : z ∈ ps.map nameD
  · rw [if_pos hz, if_pos hz]
    simp
  · rw [if_neg hz, if_neg hz]
    rfl
def partD (q : Str × Int) : PyData := .tuple [.str q.1, .int q.2]
abbrev Fire := Str × Str × List (Str × Int) × List (Str × Int)
def fireD (f : Fire) : PyData := .tuple [.str f.1, .str f.2.1, .tuple (f.2.2.1.map partD), .tuple (f.2.2.2.map partD)]
def netD (qs : List (Str × Int)) (fs : List Fire) : PyData := .tuple [.tuple (qs.map partD), .tuple (fs.map fireD)]
/-- parts by names out of zs, in their order -/
def PartsOk (zs : List Str) (ps : List (Str × Int)) : Prop := (ps.map (·.1)).Sublist zs ∧ ∀ q ∈ ps, 1 ≤ q.2 ∧ q.2 ≤ 999999999
def NmOk (z : Str) : Prop := nameOk z = true ∧ okS z = true
structure NetG (qs : List (Str × Int)) (fs : List Fire) : Prop where
  nd : (qs.map (·.1)).Nodup
  nm : ∀ q ∈ qs, NmOk q.1
  ne : 1 ≤ qs.length
  le : qs.length ≤ 40
  cnt : ∀ q ∈ qs, 0 ≤ q.2 ∧ q.2 ≤ 999999999
  fd : (fs.map (·.1)).Nodup
  fn : ∀ f ∈ fs, NmOk f.1
  fl : fs.length ≤ 60
  lb : ∀ f ∈ fs, f.2.1 = "" ∨ NmOk f.2.1
  ta : ∀ f ∈ fs, PartsOk (qs.map (·.1)) f.2.2.1
  gi : ∀ f ∈ fs, PartsOk (qs.map (·.1)) f.2.2.2
theorem part_counted {q : Str × Int} {l : Int} (h1 : nameOk q.1 = true) (h2 : l ≤ q.2) (h3 : q.2 ≤ 999999999) : isCounted (partD q) l = true := by
  show (nameOk q.1 && (decide (l ≤ q.2) && decide (q.2 ≤ 999999999))) = true
  rw [h1, decide_eq_true h2, decide_eq_true h3]
  rfl
theorem places_none : ∀ (qs : List (Str × Int)) (k : Nat) (ah : List Str), (qs.map (·.1)).Nodup → (∀ q ∈ qs, nameOk q.1 = true ∧ 0 ≤ q.2 ∧ q.2 ≤ 999999999 ∧ q.1 ∉ ah) → placesWrong k ah (qs.map partD) = .none
  | [], _, _, _, _ => rfl
  | q :: qs, k, ah, hn, h => by
    obtain ⟨h1, h2, h3, h4⟩ := h q List.mem_cons_self
    rw [List.map_cons, placesWrong, part_counted h1 h2 h3, show nameD (partD q) = q.1 from rfl, if_neg (by simpa using h4)]
    refine places_none qs (k + 1) (q.1 :: ah) (List.nodup_cons.mp hn).2 fun p hp => ?_
    obtain ⟨g1, g2, g3, g4⟩ := h p (List.mem_cons_of_mem _ hp)
    refine ⟨g1, g2, g3, fun e => ?_⟩
    rcases List.mem_cons.mp e with e | e
    · exact (List.nodup_cons.mp hn).1 (List.mem_map.mpr ⟨p, hp, e⟩)
    · exact g4 e
theorem ix_mid {x : Str} : ∀ (pre : List Str) (post : List Str), x ∉ pre → ix x (pre ++ x :: post) = pre.length
  | [], _, _ => if_pos rfl
  | y :: pre, post, h => by
    have hy : y ≠ x := fun e => h (e ▸ List.mem_cons_self)
    have := ix_mid pre post fun e => h (List.mem_cons_of_mem _ e)
    show (if y = x then 0 else ix x (pre ++ x :: post) + 1) = _
    rw [if_neg hy, this]
    rfl
theorem badIn_none (nms : List Str) (hn : nms.Nodup) : ∀ (rest pre : List Str) (ps : List (Str × Int)) (j last : Int), nms = pre ++ rest → (ps.map (·.1)).Sublist rest → last < (pre.length : Int) → ∃ j', badIn (numL nms) j last (ps.map partD) = .inr j'
  | [], pre, ps, j, last, e, h, hl => by
    have : ps = [] := by
      cases ps with
      | nil => rfl
      | cons _ _ => cases h
    subst this
    exact ⟨j, rfl⟩
  | x :: rest, pre, ps, j, last, e, h, hl => by
    have e' : nms = (pre ++ [x]) ++ rest := by rw [e, List.append_assoc]; rfl
    have hl' : ((pre ++ [x]).length : Int) = (pre.length : Int) + 1 := by rw [List.length_append]; rfl
    cases ps with
    | nil => exact ⟨j, rfl⟩
    | cons p ps =>
      cases h with
      | cons _ h => exact badIn_none nms hn rest (pre ++ [x]) (p :: ps) j last e' h (by omega)
      | cons_cons _ h =>
        have hx : p.1 ∉ pre := fun hp => by
          rw [e] at hn
          exact (List.nodup_append.mp hn).2.2 _ hp _ List.mem_cons_self rfl
        have hi : numL nms p.1 = some (pre.length : Int) := by
          unfold numL
          rw [if_pos (by rw [e]; exact List.mem_append_right _ List.mem_cons_self)]
          conv => lhs; rw [e, ix_mid pre rest hx]
        obtain ⟨j', hj⟩ := badIn_none nms hn rest (pre ++ [p.1]) ps (j + 1) (pre.length : Int) e' h (by rw [List.length_append, List.length_singleton]; omega)
        refine ⟨j', ?_⟩
        rw [List.map_cons, badIn, show nameD (partD p) = p.1 from rfl, hi]
        show (if (pre.length : Int) ≤ last then _ else _) = _
        rw [if_neg (by omega)]
        exact hj
theorem parts_all {nms : List Str} (hm : ∀ z ∈ nms, nameOk z = true) {ps : List (Str × Int)} (h : PartsOk nms ps) : isParts (.tuple (ps.map partD)) = true := by
  show (ps.map partD).all _ = true
  rw [List.all_map, List.all_eq_true]
  exact fun q hq => part_counted (hm _ (h.1.subset (List.mem_map.mpr ⟨q, hq, rfl⟩))) (h.2 q hq).1 (h.2 q hq).2
theorem firings_none (nms : List Str) (hn : nms.Nodup) (hm : ∀ z ∈ nms, nameOk z = true) : ∀ (fs : List Fire) (k : Nat) (ah : List Str), (fs.map (·.1)).Nodup →
    (∀ f ∈ fs, nameOk f.1 = true ∧ f.1 ∉ ah ∧ (f.2.1 = "" ∨ nameOk f.2.1 = true) ∧ PartsOk nms f.2.2.1 ∧ PartsOk nms f.2.2.2) → firingsWrong (numL nms) k ah (fs.map fireD) = .none
  | [], _, _, _, _ => rfl
  | f :: fs, k, ah, hf, h => by
    obtain ⟨h1, h2, h3, h4, h5⟩ := h f List.mem_cons_self
    have hl : isLabel (.str f.2.1) = true := by
      rcases h3 with e | e
      · rw [e]; decide +kernel
      · show (_ || nameOk f.2.1) = true
        rw [e, Bool.or_true]
    have hF : isFiring (fireD f) = true := by
      show (nameOk f.1 && isLabel (.str f.2.1) && isParts (.tuple (f.2.2.1.map partD)) && isParts (.tuple (f.2.2.2.map partD))) = true
      rw [h1, hl, parts_all hm h4, parts_all hm h5]
      rfl
    have hb : badPart (numL nms) (fireD f) = .none := by
      obtain ⟨j1, e1⟩ := badIn_none nms hn nms [] f.2.2.1 0 (-1) rfl h4.1 (by decide)
      obtain ⟨j2, e2⟩ := badIn_none nms hn nms [] f.2.2.2 j1 (-1) rfl h5.1 (by decide)
      show badAll (numL nms) 0 [f.2.2.1.map partD, f.2.2.2.map partD] = _
      rw [badAll, e1]
      show badAll (numL nms) j1 [f.2.2.2.map partD] = _
      rw [badAll, e2]
      rfl
    rw [List.map_cons, firingsWrong, hF, show nameD (fireD f) = f.1 from rfl, if_neg (by simpa using h2), hb, if_pos (show isNoneD .none = true from rfl)]
    refine firings_none nms hn hm fs (k + 1) (f.1 :: ah) (List.nodup_cons.mp hf).2 fun p hp => ?_
    obtain ⟨g1, g2, g3⟩ := h p (List.mem_cons_of_mem _ hp)
    refine ⟨g1, fun e => ?_, g3⟩
    rcases List.mem_cons.mp e with e | e
    · exact (List.nodup_cons.mp hf).1 (List.mem_map.mpr ⟨p, hp, e⟩)
    · exact g2 e
theorem due_great {ps fs : List PyData} (hp : ps.isEmpty = false) (h : placesWrong 0 [] ps = .none) (h2 : firingsWrong (numOf (numKv ps)) 0 [] fs = .none) : netWrong (.tuple [.tuple ps, .tuple fs]) = if (decide (40 < (ps.length : Int)) || decide (60 < (fs.length : Int))) = true then oneD "great" else .none := by
  show (if ps.isEmpty = true then oneD "net" else netWrong2 ps fs) = _
  rw [if_neg (by rw [hp]; decide)]
  unfold netWrong2
  rw [h, h2]
  rfl
theorem net_none {qs : List (Str × Int)} {fs : List Fire} (h : NetG qs fs) : netWrong (netD qs fs) = .none := by
  have hne : (qs.map partD).isEmpty = false := by
    cases qs with
    | nil => exact absurd h.ne (by decide)
    | cons _ _ => rfl
  have hnm : (qs.map partD).map nameD = qs.map (·.1) := by rw [List.map_map]; rfl
  have h1 := places_none qs 0 [] h.nd fun q hq => ⟨(h.nm q hq).1, (h.cnt q hq).1, (h.cnt q hq).2, List.not_mem_nil⟩
  have hm : ∀ z ∈ qs.map (·.1), nameOk z = true := fun z hz => by
    obtain ⟨q, hq, rfl⟩ := List.mem_map.mp hz
    exact (h.nm q hq).1
  have h2 := firings_none (qs.map (·.1)) h.nd hm fs 0 [] h.fd fun f hf => ⟨(h.fn f hf).1, List.not_mem_nil, (h.lb f hf).imp id (·.1), h.ta f hf, h.gi f hf⟩
  have hnum : numOf (numKv (qs.map partD)) = numL (qs.map (·.1)) := by
    rw [← hnm]
    exact funext fun z => num_is (by rw [hnm]; exact h.nd) z
  have hw := due_great (fs := fs.map fireD) hne h1 (by rw [hnum]; exact h2)
  refine hw.trans (if_neg ?_)
  have := h.le
  have := h.fl
  rw [List.length_map, List.length_map]
  simp only [Bool.or_eq_true, decide_eq_true_eq]
  omega
theorem gd_s {n : Nat} {z : Str} : gd n (.str z) = okS z := by cases n <;> rfl
theorem gd_i {n : Nat} {i : Int} : gd n (.int i) = true := by cases n <;> rfl
theorem part_gd {q : Str × Int} {n : Nat} (h : okS q.1 = true) : gd (n + 1) (partD q) = true := by
  show (decide ([PyData.str q.1, .int q.2].length ≤ 1000) && [PyData.str q.1, .int q.2].all (gd n)) = true
  rw [List.all_cons, List.all_cons, gd_s, gd_i, h]
  rfl
theorem parts_gd {n : Nat} {nms : List Str} (hm : ∀ z ∈ nms, okS z = true) (hl : nms.length ≤ 40) {ps : List (Str × Int)} (h : PartsOk nms ps) : gd (n + 2) (.tuple (ps.map partD)) = true := by
  have hle := h.1.length_le
  rw [List.length_map] at hle
  show (decide ((ps.map partD).length ≤ 1000) && (ps.map partD).all (gd (n + 1))) = true
  rw [List.length_map, decide_eq_true (by omega), Bool.true_and, List.all_map, List.all_eq_true]
  exact fun q hq => part_gd (hm _ (h.1.subset (List.mem_map.mpr ⟨q, hq, rfl⟩)))
theorem net_gd {qs : List (Str × Int)} {fs : List Fire} (h : NetG qs fs) : gd 20 (netD qs fs) = true := by
  have hm : ∀ z ∈ qs.map (·.1), okS z = true := fun z hz => by
    obtain ⟨q, hq, rfl⟩ := List.mem_map.mp hz
    exact (h.nm q hq).2
  have hle := h.le
  have hfl := h.fl
  have a1 : gd 19 (.tuple (qs.map partD)) = true := by
    show (decide ((qs.map partD).length ≤ 1000) && (qs.map partD).all (gd 18)) = true
    rw [List.length_map, decide_eq_true (by omega), Bool.true_and, List.all_map, List.all_eq_true]
    exact fun q hq => part_gd (h.nm q hq).2
  have a2 : gd 19 (.tuple (fs.map fireD)) = true := by
    show (decide ((fs.map fireD).length ≤ 1000) && (fs.map fireD).all (gd 18)) = true
    rw [List.length_map, decide_eq_true (by omega), Bool.true_and, List.all_map, List.all_eq_true]
    intro f hf
    have b1 := (h.fn f hf).2
    have b2 : okS f.2.1 = true := by
      rcases h.lb f hf with e | e
      · rw [e]; decide +kernel
      · exact e.2
    have b3 := parts_gd (n := 15) hm (by rw [List.length_map]; exact hle) (h.ta f hf)
    have b4 := parts_gd (n := 15) hm (by rw [List.length_map]; exact hle) (h.gi f hf)
    show (decide ([PyData.str f.1, .str f.2.1, .tuple (f.2.2.1.map partD), .tuple (f.2.2.2.map partD)].length ≤ 1000) && [PyData.str f.1, .str f.2.1, .tuple (f.2.2.1.map partD), .tuple (f.2.2.2.map partD)].all (gd 17)) = true
    rw [List.all_cons, List.all_cons, List.all_cons, List.all_cons, gd_s, gd_s, b1, b2, b3, b4]
    rfl
  show (decide (2 ≤ 1000) && (gd 19 (.tuple (qs.map partD)) && (gd 19 (.tuple (fs.map fireD)) && true))) = true
  rw [a1, a2]
  rfl
theorem net_b {qs : List (Str × Int)} {fs : List Fire} (h : NetG qs fs) : netB (netD qs fs) = true := by
  unfold netB
  rw [net_gd h, net_none h]
  rfl
end Nt

set_option Elab.async false
set_option linter.all false
set_option autoImplicit false
set_option maxRecDepth 100000
set_option maxHeartbeats 4000000
/-! The law's own nets. -/
namespace Nt
open PySem PySem.Spec PyProof.Rows L2 Lw Px
theorem parts_loop (N : PyData) (many : Int) (n : Nat) : ∀ (zs : List Str) (acc : List (Str × Int)) (bs : List PyData), PurseOk (n + 2 * zs.length) bs → acc.length + zs.length ≤ 1000 →
    ∃ (ps : List (Str × Int)) (bs' : List PyData), forA (Xg.name 4) (Xs.ifS (Xt.and (Xt.of (Xe.op oEq (Xe.callM f_Ldraw 0 (Xa.cons (Xe.int 3) Xa.nil)) (Xe.int 0))) (Xt.tmp (Xt.of (Xe.op oLt (Xe.tmp (Xe.cb bLen (Xa.cons (Xe.var 3) Xa.nil))) (Xe.var 2))))) (Xs.app 3 (Xe.tup (Xa.cons (Xe.var 4) (Xa.cons (Xe.op oAdd (Xe.int 1) (Xe.op oDiv (Xe.callM f_Ldraw 0 (Xa.cons (Xe.int 8) Xa.nil)) (Xe.int 6))) Xa.nil)))) Xs.next) [4] (zs.map .str)
      [some (.lst true bs), some (.dat N), some (.dat (.int many)), some (.lst false (acc.map partD)), none] =
      some (.nx [some (.lst true bs'), some (.dat N), some (.dat (.int many)), some (.lst false ((acc ++ ps).map partD)), none]) ∧ (ps.map (·.1)).Sublist zs ∧ (∀ q ∈ ps, 1 ≤ q.2 ∧ q.2 ≤ 2) ∧ PurseOk n bs'
  | [], acc, bs, h, _ => ⟨[], bs, by rw [List.append_nil]; rfl, List.Sublist.refl _, by simp, h⟩
  | z :: zs, acc, bs, h, hl => by
    have hl' : acc.length + (zs.length + 1) ≤ 1000 := hl
    obtain ⟨d1, bs1, e1, h10, h11, hp1⟩ := draw_is (n := n + 2 * zs.length + 1) (h.less (by simp only [List.length_cons]; omega)) (m := 3) (by decide) (by decide)
    obtain ⟨d2, bs2, e2, h20, h21, hp2⟩ := draw_is (n := n + 2 * zs.length) hp1 (m := 8) (by decide) (by decide)
    rw [List.map_cons, for_cons]
    simp only [Px.gt_zero, Px.gt_succ, Px.st_zero, Px.st_succ, Px.wp_nil, Px.wp_cons, Px.fz_nil, Px.fz_lst, Px.fz_dat, Px.fz_dct, Px.fz_seq, Px.fz_none, Px.tl_nil, Px.tl_cons, Px.ent_no, Px.ent_own, Px.ent_seq, Px.argN_no, Px.argN_own, Px.argN_seq, Px.endO_rt, Px.endO_nx, Px.endO_rf, Px.endO_srt, Px.endO_srf, Px.endO_ort, Px.endO_onx, Px.int_ev, Px.str_ev, Px.bl_ev, Px.non_ev, Px.var_ev, Px.varE_zd, Px.varE_zl, Px.consV_some, Px.varE_s, Px.op_ev, Px.nil_ev, Px.cons_ev, Px.tup_ev, Px.lst_ev, Px.cb_ev, Px.asB_b, Px.andV_ev, Px.orV_ev, Px.notV_ev, Px.of_ev, Px.and_ev, Px.or_ev, Px.not_ev, Px.yes_ev, Px.ttmp_ev, Px.ifE_ev, Px.tmp_ev, Px.flat_int, Px.flat_str, Px.flat_bool, Px.flat_none, Px.asL_l, Px.asT_t, Px.asI_i, Px.asK_d, Px.ofF_ev, Px.flst_ev, Px.lc_ev, Px.asD_d, Px.asF_f, Px.call_ev, Px.fcall_ev, Px.isi_ev, Px.bits_ev, Px.dget_ev, Px.din_ev, Px.rev_ev, Px.orT_ev, Px.qnone_lo, Px.qsome_lo, Px.sl_ev, Px.slL_f, Px.slT_f, Px.lenSeq_ev, Px.neg_ev, Px.add_f, Px.sub_f, Px.and_f, Px.or_f, Px.lt_f, Px.le_f, Px.gt_f, Px.ge_f, Px.eq_f, Px.ne_f, Px.flatQ_i, Px.flatQ_s, Px.flatQ_b, Px.isN_f, Px.notN_f, Px.ix_list, Px.ix_tuple, Px.len_f, Px.lenT_f, Px.tup_f, Px.tupT_f, Px.lst_f, Px.lstT_f, Px.max_f, Px.min_f, Px.int_f, Px.itList_ev, Px.itTup_ev, Px.itEnumT_ev, Px.itRng1_ev, Px.itVals_ev, Px.name_ev, Px.gtup_ev, Px.glst_ev, Px.stN_nil, Px.stN_cons, Px.seqK_nx, Px.seqK_rt, Px.seqK_rf, Px.seqK_bk, Px.seqK_ct, Px.seq_run, Px.next_run, Px.set_run, Px.setF_run, Px.asg_run, Px.ret_run, Px.retF_run, Px.ifS_run, Px.drop_run, Px.newK_run, Px.par2F_run, Px.forS_run, Px.whileS_run, Px.turnK_nx, Px.turnK_ct, Px.turnK_bk, Px.turnK_rt, Px.turnK_rf, Px.for_nil, Px.lcA_nil, Option.bind_some, List.length_cons, List.length_nil, List.length_map, if_true, reduceCtorEq, List.replicate_succ, List.replicate_zero, Nat.reduceAdd, Nat.reduceSub, Nat.reduceLeDiff, draw_int e1]
    by_cases c : d1 = 0 ∧ ((acc.map partD).length : Int) < many
    · have c2 : ((acc.length : Nat) : Int) < many := by simpa using c.2
      rw [if_pos (decide_eq_true c.1)]
      simp only [Px.gt_zero, Px.gt_succ, Px.st_zero, Px.st_succ, Px.wp_nil, Px.wp_cons, Px.fz_nil, Px.fz_lst, Px.fz_dat, Px.fz_dct, Px.fz_seq, Px.fz_none, Px.tl_nil, Px.tl_cons, Px.ent_no, Px.ent_own, Px.ent_seq, Px.argN_no, Px.argN_own, Px.argN_seq, Px.endO_rt, Px.endO_nx, Px.endO_rf, Px.endO_srt, Px.endO_srf, Px.endO_ort, Px.endO_onx, Px.int_ev, Px.str_ev, Px.bl_ev, Px.non_ev, Px.var_ev, Px.varE_zd, Px.varE_zl, Px.consV_some, Px.varE_s, Px.op_ev, Px.nil_ev, Px.cons_ev, Px.tup_ev, Px.lst_ev, Px.cb_ev, Px.asB_b, Px.andV_ev, Px.orV_ev, Px.notV_ev, Px.of_ev, Px.and_ev, Px.or_ev, Px.not_ev, Px.yes_ev, Px.ttmp_ev, Px.ifE_ev, Px.tmp_ev, Px.flat_int, Px.flat_str, Px.flat_bool, Px.flat_none, Px.asL_l, Px.asT_t, Px.asI_i, Px.asK_d, Px.ofF_ev, Px.flst_ev, Px.lc_ev, Px.asD_d, Px.asF_f, Px.call_ev, Px.fcall_ev, Px.isi_ev, Px.bits_ev, Px.dget_ev, Px.din_ev, Px.rev_ev, Px.orT_ev, Px.qnone_lo, Px.qsome_lo, Px.sl_ev, Px.slL_f, Px.slT_f, Px.lenSeq_ev, Px.neg_ev, Px.add_f, Px.sub_f, Px.and_f, Px.or_f, Px.lt_f, Px.le_f, Px.gt_f, Px.ge_f, Px.eq_f, Px.ne_f, Px.flatQ_i, Px.flatQ_s, Px.flatQ_b, Px.isN_f, Px.notN_f, Px.ix_list, Px.ix_tuple, Px.len_f, Px.lenT_f, Px.tup_f, Px.tupT_f, Px.lst_f, Px.lstT_f, Px.max_f, Px.min_f, Px.int_f, Px.itList_ev, Px.itTup_ev, Px.itEnumT_ev, Px.itRng1_ev, Px.itVals_ev, Px.name_ev, Px.gtup_ev, Px.glst_ev, Px.stN_nil, Px.stN_cons, Px.seqK_nx, Px.seqK_rt, Px.seqK_rf, Px.seqK_bk, Px.seqK_ct, Px.seq_run, Px.next_run, Px.set_run, Px.setF_run, Px.asg_run, Px.ret_run, Px.retF_run, Px.ifS_run, Px.drop_run, Px.newK_run, Px.par2F_run, Px.forS_run, Px.whileS_run, Px.turnK_nx, Px.turnK_ct, Px.turnK_bk, Px.turnK_rt, Px.turnK_rf, Px.for_nil, Px.lcA_nil, Option.bind_some, List.length_cons, List.length_nil, List.length_map, if_true, reduceCtorEq, List.replicate_succ, List.replicate_zero, Nat.reduceAdd, Nat.reduceSub, Nat.reduceLeDiff, if_pos (decide_eq_true c2)]
      have ex : (Xe.tup (Xa.cons (Xe.var 4) (Xa.cons (Xe.op oAdd (Xe.int 1) (Xe.op oDiv (Xe.callM f_Ldraw 0 (Xa.cons (Xe.int 8) Xa.nil)) (Xe.int 6))) Xa.nil))).ev [some (.lst true bs1), some (.dat N), some (.dat (.int many)), some (.lst false (acc.map partD)), some (.dat (.str z))] =
          some (partD (z, 1 + d2 / 6), [some (.lst true bs2), some (.dat N), some (.dat (.int many)), some (.lst false (acc.map partD)), some (.dat (.str z))]) := by
        simp only [Px.gt_zero, Px.gt_succ, Px.st_zero, Px.st_succ, Px.wp_nil, Px.wp_cons, Px.fz_nil, Px.fz_lst, Px.fz_dat, Px.fz_dct, Px.fz_seq, Px.fz_none, Px.tl_nil, Px.tl_cons, Px.ent_no, Px.ent_own, Px.ent_seq, Px.argN_no, Px.argN_own, Px.argN_seq, Px.endO_rt, Px.endO_nx, Px.endO_rf, Px.endO_srt, Px.endO_srf, Px.endO_ort, Px.endO_onx, Px.int_ev, Px.str_ev, Px.bl_ev, Px.non_ev, Px.var_ev, Px.varE_zd, Px.varE_zl, Px.consV_some, Px.varE_s, Px.op_ev, Px.nil_ev, Px.cons_ev, Px.tup_ev, Px.lst_ev, Px.cb_ev, Px.asB_b, Px.andV_ev, Px.orV_ev, Px.notV_ev, Px.of_ev, Px.and_ev, Px.or_ev, Px.not_ev, Px.yes_ev, Px.ttmp_ev, Px.ifE_ev, Px.tmp_ev, Px.flat_int, Px.flat_str, Px.flat_bool, Px.flat_none, Px.asL_l, Px.asT_t, Px.asI_i, Px.asK_d, Px.ofF_ev, Px.flst_ev, Px.lc_ev, Px.asD_d, Px.asF_f, Px.call_ev, Px.fcall_ev, Px.isi_ev, Px.bits_ev, Px.dget_ev, Px.din_ev, Px.rev_ev, Px.orT_ev, Px.qnone_lo, Px.qsome_lo, Px.sl_ev, Px.slL_f, Px.slT_f, Px.lenSeq_ev, Px.neg_ev, Px.add_f, Px.sub_f, Px.and_f, Px.or_f, Px.lt_f, Px.le_f, Px.gt_f, Px.ge_f, Px.eq_f, Px.ne_f, Px.flatQ_i, Px.flatQ_s, Px.flatQ_b, Px.isN_f, Px.notN_f, Px.ix_list, Px.ix_tuple, Px.len_f, Px.lenT_f, Px.tup_f, Px.tupT_f, Px.lst_f, Px.lstT_f, Px.max_f, Px.min_f, Px.int_f, Px.itList_ev, Px.itTup_ev, Px.itEnumT_ev, Px.itRng1_ev, Px.itVals_ev, Px.name_ev, Px.gtup_ev, Px.glst_ev, Px.stN_nil, Px.stN_cons, Px.seqK_nx, Px.seqK_rt, Px.seqK_rf, Px.seqK_bk, Px.seqK_ct, Px.seq_run, Px.next_run, Px.set_run, Px.setF_run, Px.asg_run, Px.ret_run, Px.retF_run, Px.ifS_run, Px.drop_run, Px.newK_run, Px.par2F_run, Px.forS_run, Px.whileS_run, Px.turnK_nx, Px.turnK_ct, Px.turnK_bk, Px.turnK_rt, Px.turnK_rf, Px.for_nil, Px.lcA_nil, Option.bind_some, List.length_cons, List.length_nil, List.length_map, if_true, reduceCtorEq, List.replicate_succ, List.replicate_zero, Nat.reduceAdd, Nat.reduceSub, Nat.reduceLeDiff, draw_int e2]
        rw [div_f (by decide)]
        simp only [Px.gt_zero, Px.gt_succ, Px.st_zero, Px.st_succ, Px.wp_nil, Px.wp_cons, Px.fz_nil, Px.fz_lst, Px.fz_dat, Px.fz_dct, Px.fz_seq, Px.fz_none, Px.tl_nil, Px.tl_cons, Px.ent_no, Px.ent_own, Px.ent_seq, Px.argN_no, Px.argN_own, Px.argN_seq, Px.endO_rt, Px.endO_nx, Px.endO_rf, Px.endO_srt, Px.endO_srf, Px.endO_ort, Px.endO_onx, Px.int_ev, Px.str_ev, Px.bl_ev, Px.non_ev, Px.var_ev, Px.varE_zd, Px.varE_zl, Px.consV_some, Px.varE_s, Px.op_ev, Px.nil_ev, Px.cons_ev, Px.tup_ev, Px.lst_ev, Px.cb_ev, Px.asB_b, Px.andV_ev, Px.orV_ev, Px.notV_ev, Px.of_ev, Px.and_ev, Px.or_ev, Px.not_ev, Px.yes_ev, Px.ttmp_ev, Px.ifE_ev, Px.tmp_ev, Px.flat_int, Px.flat_str, Px.flat_bool, Px.flat_none, Px.asL_l, Px.asT_t, Px.asI_i, Px.asK_d, Px.ofF_ev, Px.flst_ev, Px.lc_ev, Px.asD_d, Px.asF_f, Px.call_ev, Px.fcall_ev, Px.isi_ev, Px.bits_ev, Px.dget_ev, Px.din_ev, Px.rev_ev, Px.orT_ev, Px.qnone_lo, Px.qsome_lo, Px.sl_ev, Px.slL_f, Px.slT_f, Px.lenSeq_ev, Px.neg_ev, Px.add_f, Px.sub_f, Px.and_f, Px.or_f, Px.lt_f, Px.le_f, Px.gt_f, Px.ge_f, Px.eq_f, Px.ne_f, Px.flatQ_i, Px.flatQ_s, Px.flatQ_b, Px.isN_f, Px.notN_f, Px.ix_list, Px.ix_tuple, Px.len_f, Px.lenT_f, Px.tup_f, Px.tupT_f, Px.lst_f, Px.lstT_f, Px.max_f, Px.min_f, Px.int_f, Px.itList_ev, Px.itTup_ev, Px.itEnumT_ev, Px.itRng1_ev, Px.itVals_ev, Px.name_ev, Px.gtup_ev, Px.glst_ev, Px.stN_nil, Px.stN_cons, Px.seqK_nx, Px.seqK_rt, Px.seqK_rf, Px.seqK_bk, Px.seqK_ct, Px.seq_run, Px.next_run, Px.set_run, Px.setF_run, Px.asg_run, Px.ret_run, Px.retF_run, Px.ifS_run, Px.drop_run, Px.newK_run, Px.par2F_run, Px.forS_run, Px.whileS_run, Px.turnK_nx, Px.turnK_ct, Px.turnK_bk, Px.turnK_rt, Px.turnK_rf, Px.for_nil, Px.lcA_nil, Option.bind_some, List.length_cons, List.length_nil, List.length_map, if_true, reduceCtorEq, List.replicate_succ, List.replicate_zero, Nat.reduceAdd, Nat.reduceSub, Nat.reduceLeDiff]
        rfl
      rw [app_run (d := partD (z, 1 + d2 / 6)) (by rfl) ex (by rfl) (by rw [List.length_map]; omega)]
      simp only [Px.gt_zero, Px.gt_succ, Px.st_zero, Px.st_succ, Px.wp_nil, Px.wp_cons, Px.fz_nil, Px.fz_lst, Px.fz_dat, Px.fz_dct, Px.fz_seq, Px.fz_none, Px.tl_nil, Px.tl_cons, Px.ent_no, Px.ent_own, Px.ent_seq, Px.argN_no, Px.argN_own, Px.argN_seq, Px.endO_rt, Px.endO_nx, Px.endO_rf, Px.endO_srt, Px.endO_srf, Px.endO_ort, Px.endO_onx, Px.int_ev, Px.str_ev, Px.bl_ev, Px.non_ev, Px.var_ev, Px.varE_zd, Px.varE_zl, Px.consV_some, Px.varE_s, Px.op_ev, Px.nil_ev, Px.cons_ev, Px.tup_ev, Px.lst_ev, Px.cb_ev, Px.asB_b, Px.andV_ev, Px.orV_ev, Px.notV_ev, Px.of_ev, Px.and_ev, Px.or_ev, Px.not_ev, Px.yes_ev, Px.ttmp_ev, Px.ifE_ev, Px.tmp_ev, Px.flat_int, Px.flat_str, Px.flat_bool, Px.flat_none, Px.asL_l, Px.asT_t, Px.asI_i, Px.asK_d, Px.ofF_ev, Px.flst_ev, Px.lc_ev, Px.asD_d, Px.asF_f, Px.call_ev, Px.fcall_ev, Px.isi_ev, Px.bits_ev, Px.dget_ev, Px.din_ev, Px.rev_ev, Px.orT_ev, Px.qnone_lo, Px.qsome_lo, Px.sl_ev, Px.slL_f, Px.slT_f, Px.lenSeq_ev, Px.neg_ev, Px.add_f, Px.sub_f, Px.and_f, Px.or_f, Px.lt_f, Px.le_f, Px.gt_f, Px.ge_f, Px.eq_f, Px.ne_f, Px.flatQ_i, Px.flatQ_s, Px.flatQ_b, Px.isN_f, Px.notN_f, Px.ix_list, Px.ix_tuple, Px.len_f, Px.lenT_f, Px.tup_f, Px.tupT_f, Px.lst_f, Px.lstT_f, Px.max_f, Px.min_f, Px.int_f, Px.itList_ev, Px.itTup_ev, Px.itEnumT_ev, Px.itRng1_ev, Px.itVals_ev, Px.name_ev, Px.gtup_ev, Px.glst_ev, Px.stN_nil, Px.stN_cons, Px.seqK_nx, Px.seqK_rt, Px.seqK_rf, Px.seqK_bk, Px.seqK_ct, Px.seq_run, Px.next_run, Px.set_run, Px.setF_run, Px.asg_run, Px.ret_run, Px.retF_run, Px.ifS_run, Px.drop_run, Px.newK_run, Px.par2F_run, Px.forS_run, Px.whileS_run, Px.turnK_nx, Px.turnK_ct, Px.turnK_bk, Px.turnK_rt, Px.turnK_rf, Px.for_nil, Px.lcA_nil, Option.bind_some, List.length_cons, List.length_nil, List.length_map, if_true, reduceCtorEq, List.replicate_succ, List.replicate_zero, Nat.reduceAdd, Nat.reduceSub, Nat.reduceLeDiff]
      obtain ⟨ps, bs', g1, g2, g3, g4⟩ := parts_loop N many n zs (acc ++ [(z, 1 + d2 / 6)]) bs2 hp2 (by rw [List.length_append, List.length_singleton]; omega)
      rw [List.map_append] at g1
      refine ⟨(z, 1 + d2 / 6) :: ps, bs', g1.trans ?_, g2.cons_cons z, ?_, g4⟩
      · rw [List.append_assoc]
        rfl
      · intro q hq
        rcases List.mem_cons.mp hq with rfl | hq
        · show 1 ≤ 1 + d2 / 6 ∧ 1 + d2 / 6 ≤ 2
          omega
        · exact g3 q hq
    · obtain ⟨ps, bs', g1, g2, g3, g4⟩ := parts_loop N many n zs acc bs1 (hp1.less (by omega)) (by omega)
      refine ⟨ps, bs', Eq.trans ?_ g1, g2.cons z, g3, g4⟩
      by_cases c1 : d1 = 0
      · have c2 : ¬ ((acc.length : Nat) : Int) < many := fun e => c ⟨c1, by simpa using e⟩
        rw [if_pos (decide_eq_true c1)]
        simp only [Px.gt_zero, Px.gt_succ, Px.st_zero, Px.st_succ, Px.wp_nil, Px.wp_cons, Px.fz_nil, Px.fz_lst, Px.fz_dat, Px.fz_dct, Px.fz_seq, Px.fz_none, Px.tl_nil, Px.tl_cons, Px.ent_no, Px.ent_own, Px.ent_seq, Px.argN_no, Px.argN_own, Px.argN_seq, Px.endO_rt, Px.endO_nx, Px.endO_rf, Px.endO_srt, Px.endO_srf, Px.endO_ort, Px.endO_onx, Px.int_ev, Px.str_ev, Px.bl_ev, Px.non_ev, Px.var_ev, Px.varE_zd, Px.varE_zl, Px.consV_some, Px.varE_s, Px.op_ev, Px.nil_ev, Px.cons_ev, Px.tup_ev, Px.lst_ev, Px.cb_ev, Px.asB_b, Px.andV_ev, Px.orV_ev, Px.notV_ev, Px.of_ev, Px.and_ev, Px.or_ev, Px.not_ev, Px.yes_ev, Px.ttmp_ev, Px.ifE_ev, Px.tmp_ev, Px.flat_int, Px.flat_str, Px.flat_bool, Px.flat_none, Px.asL_l, Px.asT_t, Px.asI_i, Px.asK_d, Px.ofF_ev, Px.flst_ev, Px.lc_ev, Px.asD_d, Px.asF_f, Px.call_ev, Px.fcall_ev, Px.isi_ev, Px.bits_ev, Px.dget_ev, Px.din_ev, Px.rev_ev, Px.orT_ev, Px.qnone_lo, Px.qsome_lo, Px.sl_ev, Px.slL_f, Px.slT_f, Px.lenSeq_ev, Px.neg_ev, Px.add_f, Px.sub_f, Px.and_f, Px.or_f, Px.lt_f, Px.le_f, Px.gt_f, Px.ge_f, Px.eq_f, Px.ne_f, Px.flatQ_i, Px.flatQ_s, Px.flatQ_b, Px.isN_f, Px.notN_f, Px.ix_list, Px.ix_tuple, Px.len_f, Px.lenT_f, Px.tup_f, Px.tupT_f, Px.lst_f, Px.lstT_f, Px.max_f, Px.min_f, Px.int_f, Px.itList_ev, Px.itTup_ev, Px.itEnumT_ev, Px.itRng1_ev, Px.itVals_ev, Px.name_ev, Px.gtup_ev, Px.glst_ev, Px.stN_nil, Px.stN_cons, Px.seqK_nx, Px.seqK_rt, Px.seqK_rf, Px.seqK_bk, Px.seqK_ct, Px.seq_run, Px.next_run, Px.set_run, Px.setF_run, Px.asg_run, Px.ret_run, Px.retF_run, Px.ifS_run, Px.drop_run, Px.newK_run, Px.par2F_run, Px.forS_run, Px.whileS_run, Px.turnK_nx, Px.turnK_ct, Px.turnK_bk, Px.turnK_rt, Px.turnK_rf, Px.for_nil, Px.lcA_nil, Option.bind_some, List.length_cons, List.length_nil, List.length_map, if_true, reduceCtorEq, List.replicate_succ, List.replicate_zero, Nat.reduceAdd, Nat.reduceSub, Nat.reduceLeDiff, decide_eq_false c2, Bool.false_eq_true, if_false]
      · rw [if_neg (by simpa using c1)]
        simp only [Px.gt_zero, Px.gt_succ, Px.st_zero, Px.st_succ, Px.wp_nil, Px.wp_cons, Px.fz_nil, Px.fz_lst, Px.fz_dat, Px.fz_dct, Px.fz_seq, Px.fz_none, Px.tl_nil, Px.tl_cons, Px.ent_no, Px.ent_own, Px.ent_seq, Px.argN_no, Px.argN_own, Px.argN_seq, Px.endO_rt, Px.endO_nx, Px.endO_rf, Px.endO_srt, Px.endO_srf, Px.endO_ort, Px.endO_onx, Px.int_ev, Px.str_ev, Px.bl_ev, Px.non_ev, Px.var_ev, Px.varE_zd, Px.varE_zl, Px.consV_some, Px.varE_s, Px.op_ev, Px.nil_ev, Px.cons_ev, Px.tup_ev, Px.lst_ev, Px.cb_ev, Px.asB_b, Px.andV_ev, Px.orV_ev, Px.notV_ev, Px.of_ev, Px.and_ev, Px.or_ev, Px.not_ev, Px.yes_ev, Px.ttmp_ev, Px.ifE_ev, Px.tmp_ev, Px.flat_int, Px.flat_str, Px.flat_bool, Px.flat_none, Px.asL_l, Px.asT_t, Px.asI_i, Px.asK_d, Px.ofF_ev, Px.flst_ev, Px.lc_ev, Px.asD_d, Px.asF_f, Px.call_ev, Px.fcall_ev, Px.isi_ev, Px.bits_ev, Px.dget_ev, Px.din_ev, Px.rev_ev, Px.orT_ev, Px.qnone_lo, Px.qsome_lo, Px.sl_ev, Px.slL_f, Px.slT_f, Px.lenSeq_ev, Px.neg_ev, Px.add_f, Px.sub_f, Px.and_f, Px.or_f, Px.lt_f, Px.le_f, Px.gt_f, Px.ge_f, Px.eq_f, Px.ne_f, Px.flatQ_i, Px.flatQ_s, Px.flatQ_b, Px.isN_f, Px.notN_f, Px.ix_list, Px.ix_tuple, Px.len_f, Px.lenT_f, Px.tup_f, Px.tupT_f, Px.lst_f, Px.lstT_f, Px.max_f, Px.min_f, Px.int_f, Px.itList_ev, Px.itTup_ev, Px.itEnumT_ev, Px.itRng1_ev, Px.itVals_ev, Px.name_ev, Px.gtup_ev, Px.glst_ev, Px.stN_nil, Px.stN_cons, Px.seqK_nx, Px.seqK_rt, Px.seqK_rf, Px.seqK_bk, Px.seqK_ct, Px.seq_run, Px.next_run, Px.set_run, Px.setF_run, Px.asg_run, Px.ret_run, Px.retF_run, Px.ifS_run, Px.drop_run, Px.newK_run, Px.par2F_run, Px.forS_run, Px.whileS_run, Px.turnK_nx, Px.turnK_ct, Px.turnK_bk, Px.turnK_rt, Px.turnK_rf, Px.for_nil, Px.lcA_nil, Option.bind_some, List.length_cons, List.length_nil, List.length_map, if_true, reduceCtorEq, List.replicate_succ, List.replicate_zero, Nat.reduceAdd, Nat.reduceSub, Nat.reduceLeDiff, Bool.false_eq_true, if_false]
end Nt

set_option Elab.async false
set_option linter.all false
set_option autoImplicit false
set_option maxRecDepth 100000
set_option maxHeartbeats 4000000
namespace Nt
open PySem PySem.Spec PyProof.Rows L2 Lw Px
def strsD (zs : List Str) : PyData := .list (zs.map .str)
theorem flat_strs (zs : List Str) : (zs.map PyData.str).all flatD = true := by
  rw [List.all_map, List.all_eq_true]
  exact fun _ _ => rfl
theorem inQ_str (z : Str) (zs : List Str) : inQ (.str z) (zs.map .str) = decide (z ∈ zs) := by
  unfold inQ inV
  rw [List.map_map, List.any_map]
  induction zs with
  | nil => rfl
  | cons y zs ih =>
    rw [List.any_cons, ih]
    show (y == z || decide (z ∈ zs)) = _
    by_cases h : y = z
    · subst h
      simp
    · have : ¬ z = y := fun e => h e.symm
      simp [h, this]
end Nt

set_option Elab.async false
set_option linter.all false
set_option autoImplicit false
set_option maxRecDepth 100000
set_option maxHeartbeats 4000000
/-! The law's own nets: one drawn, even. -/
namespace Nt
open PySem PySem.Spec PyProof.Rows L2 Lw Px
theorem parts_is {n : Nat} {zs : List Str} {bs : List PyData} (h : PurseOk (n + 2 * zs.length) bs) (hl : zs.length ≤ 1000) (many : Int) : ∃ (ps : List (Str × Int)) (bs' : List PyData), f_Lparts (.own bs) [strsD zs, .int many] = some (.dat (.tuple (ps.map partD)), bs') ∧ PartsOk zs ps ∧ PurseOk n bs' := by
  obtain ⟨ps, bs', g1, g2, g3, g4⟩ := parts_loop (strsD zs) many n zs [] bs h (by simpa using hl)
  refine ⟨ps, bs', ?_, ⟨g2, fun q hq => ⟨(g3 q hq).1, by have := (g3 q hq).2; omega⟩⟩, g4⟩
  unfold f_Lparts
  rw [fnOf_eq (by rfl)]
  unfold b_Lparts
  have e : asL (strsD zs) = some (zs.map .str) := rfl
  simp only [Px.gt_zero, Px.gt_succ, Px.st_zero, Px.st_succ, Px.wp_nil, Px.wp_cons, Px.fz_nil, Px.fz_lst, Px.fz_dat, Px.fz_dct, Px.fz_seq, Px.fz_none, Px.tl_nil, Px.tl_cons, Px.ent_no, Px.ent_own, Px.ent_seq, Px.argN_no, Px.argN_own, Px.argN_seq, Px.endO_rt, Px.endO_nx, Px.endO_rf, Px.endO_srt, Px.endO_srf, Px.endO_ort, Px.endO_onx, Px.int_ev, Px.str_ev, Px.bl_ev, Px.non_ev, Px.var_ev, Px.varE_zd, Px.varE_zl, Px.consV_some, Px.varE_s, Px.op_ev, Px.nil_ev, Px.cons_ev, Px.tup_ev, Px.lst_ev, Px.cb_ev, Px.asB_b, Px.andV_ev, Px.orV_ev, Px.notV_ev, Px.of_ev, Px.and_ev, Px.or_ev, Px.not_ev, Px.yes_ev, Px.ttmp_ev, Px.ifE_ev, Px.tmp_ev, Px.flat_int, Px.flat_str, Px.flat_bool, Px.flat_none, Px.asL_l, Px.asT_t, Px.asI_i, Px.asK_d, Px.ofF_ev, Px.flst_ev, Px.lc_ev, Px.asD_d, Px.asF_f, Px.call_ev, Px.fcall_ev, Px.isi_ev, Px.bits_ev, Px.dget_ev, Px.din_ev, Px.rev_ev, Px.orT_ev, Px.qnone_lo, Px.qsome_lo, Px.sl_ev, Px.slL_f, Px.slT_f, Px.lenSeq_ev, Px.neg_ev, Px.add_f, Px.sub_f, Px.and_f, Px.or_f, Px.lt_f, Px.le_f, Px.gt_f, Px.ge_f, Px.eq_f, Px.ne_f, Px.flatQ_i, Px.flatQ_s, Px.flatQ_b, Px.isN_f, Px.notN_f, Px.ix_list, Px.ix_tuple, Px.len_f, Px.lenT_f, Px.tup_f, Px.tupT_f, Px.lst_f, Px.lstT_f, Px.max_f, Px.min_f, Px.int_f, Px.itList_ev, Px.itTup_ev, Px.itEnumT_ev, Px.itRng1_ev, Px.itVals_ev, Px.name_ev, Px.gtup_ev, Px.glst_ev, Px.stN_nil, Px.stN_cons, Px.seqK_nx, Px.seqK_rt, Px.seqK_rf, Px.seqK_bk, Px.seqK_ct, Px.seq_run, Px.next_run, Px.set_run, Px.setF_run, Px.asg_run, Px.ret_run, Px.retF_run, Px.ifS_run, Px.drop_run, Px.newK_run, Px.par2F_run, Px.forS_run, Px.whileS_run, Px.turnK_nx, Px.turnK_ct, Px.turnK_bk, Px.turnK_rt, Px.turnK_rf, Px.for_nil, Px.lcA_nil, Option.bind_some, List.length_cons, List.length_nil, List.length_map, if_true, reduceCtorEq, List.replicate_succ, List.replicate_zero, Nat.reduceAdd, Nat.reduceSub, Nat.reduceLeDiff, e]
  rw [show (([] : List PyData)) = (([] : List (Str × Int)).map partD) from rfl, g1]
  simp only [Px.gt_zero, Px.gt_succ, Px.st_zero, Px.st_succ, Px.wp_nil, Px.wp_cons, Px.fz_nil, Px.fz_lst, Px.fz_dat, Px.fz_dct, Px.fz_seq, Px.fz_none, Px.tl_nil, Px.tl_cons, Px.ent_no, Px.ent_own, Px.ent_seq, Px.argN_no, Px.argN_own, Px.argN_seq, Px.endO_rt, Px.endO_nx, Px.endO_rf, Px.endO_srt, Px.endO_srf, Px.endO_ort, Px.endO_onx, Px.int_ev, Px.str_ev, Px.bl_ev, Px.non_ev, Px.var_ev, Px.varE_zd, Px.varE_zl, Px.consV_some, Px.varE_s, Px.op_ev, Px.nil_ev, Px.cons_ev, Px.tup_ev, Px.lst_ev, Px.cb_ev, Px.asB_b, Px.andV_ev, Px.orV_ev, Px.notV_ev, Px.of_ev, Px.and_ev, Px.or_ev, Px.not_ev, Px.yes_ev, Px.ttmp_ev, Px.ifE_ev, Px.tmp_ev, Px.flat_int, Px.flat_str, Px.flat_bool, Px.flat_none, Px.asL_l, Px.asT_t, Px.asI_i, Px.asK_d, Px.ofF_ev, Px.flst_ev, Px.lc_ev, Px.asD_d, Px.asF_f, Px.call_ev, Px.fcall_ev, Px.isi_ev, Px.bits_ev, Px.dget_ev, Px.din_ev, Px.rev_ev, Px.orT_ev, Px.qnone_lo, Px.qsome_lo, Px.sl_ev, Px.slL_f, Px.slT_f, Px.lenSeq_ev, Px.neg_ev, Px.add_f, Px.sub_f, Px.and_f, Px.or_f, Px.lt_f, Px.le_f, Px.gt_f, Px.ge_f, Px.eq_f, Px.ne_f, Px.flatQ_i, Px.flatQ_s, Px.flatQ_b, Px.isN_f, Px.notN_f, Px.ix_list, Px.ix_tuple, Px.len_f, Px.lenT_f, Px.tup_f, Px.tupT_f, Px.lst_f, Px.lstT_f, Px.max_f, Px.min_f, Px.int_f, Px.itList_ev, Px.itTup_ev, Px.itEnumT_ev, Px.itRng1_ev, Px.itVals_ev, Px.name_ev, Px.gtup_ev, Px.glst_ev, Px.stN_nil, Px.stN_cons, Px.seqK_nx, Px.seqK_rt, Px.seqK_rf, Px.seqK_bk, Px.seqK_ct, Px.seq_run, Px.next_run, Px.set_run, Px.setF_run, Px.asg_run, Px.ret_run, Px.retF_run, Px.ifS_run, Px.drop_run, Px.newK_run, Px.par2F_run, Px.forS_run, Px.whileS_run, Px.turnK_nx, Px.turnK_ct, Px.turnK_bk, Px.turnK_rt, Px.turnK_rf, Px.for_nil, Px.lcA_nil, Option.bind_some, List.length_cons, List.length_nil, List.length_map, if_true, reduceCtorEq, List.replicate_succ, List.replicate_zero, Nat.reduceAdd, Nat.reduceSub, Nat.reduceLeDiff]
  rfl
theorem atI_strs {zs : List Str} {d : Int} (h0 : 0 ≤ d) (h1 : d < (zs.length : Int)) : ∃ z ∈ zs, oIx.f (strsD zs) (.int d) = some (.str z) := by
  have hk : d.toNat < zs.length := by omega
  refine ⟨zs[d.toNat], List.getElem_mem hk, ?_⟩
  unfold strsD
  rw [Px.ix_list]
  unfold atI ixN
  rw [if_pos h0, if_pos (by rw [List.length_map]; omega)]
  simp [hk]
/-- one of the names, drawn -/
theorem ixdraw {n : Nat} {bs : List PyData} (h : PurseOk (n + 1) bs) {zs : List Str} (hz : zs ≠ []) (hl : zs.length ≤ 1000) {i : Nat} : ∃ (z : Str) (bs' : List PyData), z ∈ zs ∧ PurseOk n bs' ∧ ∀ (b : Bool) (r : AE), varE r i = some (strsD zs, r) →
    (Xe.op oIx (Xe.var (i + 1)) (Xe.callM f_Ldraw 0 (Xa.cons (Xe.cb bLen (Xa.cons (Xe.var (i + 1)) Xa.nil)) Xa.nil))).ev (some (.lst b bs) :: r) = some (.str z, some (.lst b bs') :: r) := by
  have hp : 0 < zs.length := List.length_pos_iff.mpr hz
  obtain ⟨d, bs', e, d0, d1, hp'⟩ := draw_is h (m := (zs.length : Int)) (by omega) (by omega)
  obtain ⟨z, hz, e2⟩ := atI_strs d0 d1
  refine ⟨z, bs', hz, hp', fun b r hr => ?_⟩
  have ex : (Xe.cb bLen (Xa.cons (Xe.var (i + 1)) Xa.nil)).ev (some (.lst b bs) :: r) = some (.int (zs.length : Int), some (.lst b bs) :: r) := by
    have el : bLen.f [strsD zs] = some (.int (zs.length : Int)) := by
      unfold strsD
      rw [Px.len_f, List.length_map]
    simp only [Px.gt_zero, Px.gt_succ, Px.st_zero, Px.st_succ, Px.wp_nil, Px.wp_cons, Px.fz_nil, Px.fz_lst, Px.fz_dat, Px.fz_dct, Px.fz_seq, Px.fz_none, Px.tl_nil, Px.tl_cons, Px.ent_no, Px.ent_own, Px.ent_seq, Px.argN_no, Px.argN_own, Px.argN_seq, Px.endO_rt, Px.endO_nx, Px.endO_rf, Px.endO_srt, Px.endO_srf, Px.endO_ort, Px.endO_onx, Px.int_ev, Px.str_ev, Px.bl_ev, Px.non_ev, Px.var_ev, Px.varE_zd, Px.varE_zl, Px.consV_some, Px.varE_s, Px.op_ev, Px.nil_ev, Px.cons_ev, Px.tup_ev, Px.lst_ev, Px.cb_ev, Px.asB_b, Px.andV_ev, Px.orV_ev, Px.notV_ev, Px.of_ev, Px.and_ev, Px.or_ev, Px.not_ev, Px.yes_ev, Px.ttmp_ev, Px.ifE_ev, Px.tmp_ev, Px.flat_int, Px.flat_str, Px.flat_bool, Px.flat_none, Px.asL_l, Px.asT_t, Px.asI_i, Px.asK_d, Px.ofF_ev, Px.flst_ev, Px.lc_ev, Px.asD_d, Px.asF_f, Px.call_ev, Px.fcall_ev, Px.isi_ev, Px.bits_ev, Px.dget_ev, Px.din_ev, Px.rev_ev, Px.orT_ev, Px.qnone_lo, Px.qsome_lo, Px.sl_ev, Px.slL_f, Px.slT_f, Px.lenSeq_ev, Px.neg_ev, Px.add_f, Px.sub_f, Px.and_f, Px.or_f, Px.lt_f, Px.le_f, Px.gt_f, Px.ge_f, Px.eq_f, Px.ne_f, Px.flatQ_i, Px.flatQ_s, Px.flatQ_b, Px.isN_f, Px.notN_f, Px.ix_list, Px.ix_tuple, Px.len_f, Px.lenT_f, Px.tup_f, Px.tupT_f, Px.lst_f, Px.lstT_f, Px.max_f, Px.min_f, Px.int_f, Px.itList_ev, Px.itTup_ev, Px.itEnumT_ev, Px.itRng1_ev, Px.itVals_ev, Px.name_ev, Px.gtup_ev, Px.glst_ev, Px.stN_nil, Px.stN_cons, Px.seqK_nx, Px.seqK_rt, Px.seqK_rf, Px.seqK_bk, Px.seqK_ct, Px.seq_run, Px.next_run, Px.set_run, Px.setF_run, Px.asg_run, Px.ret_run, Px.retF_run, Px.ifS_run, Px.drop_run, Px.newK_run, Px.par2F_run, Px.forS_run, Px.whileS_run, Px.turnK_nx, Px.turnK_ct, Px.turnK_bk, Px.turnK_rt, Px.turnK_rf, Px.for_nil, Px.lcA_nil, Option.bind_some, List.length_cons, List.length_nil, List.length_map, if_true, reduceCtorEq, List.replicate_succ, List.replicate_zero, Nat.reduceAdd, Nat.reduceSub, Nat.reduceLeDiff, hr, el]
  simp only [Px.gt_zero, Px.gt_succ, Px.st_zero, Px.st_succ, Px.wp_nil, Px.wp_cons, Px.fz_nil, Px.fz_lst, Px.fz_dat, Px.fz_dct, Px.fz_seq, Px.fz_none, Px.tl_nil, Px.tl_cons, Px.ent_no, Px.ent_own, Px.ent_seq, Px.argN_no, Px.argN_own, Px.argN_seq, Px.endO_rt, Px.endO_nx, Px.endO_rf, Px.endO_srt, Px.endO_srf, Px.endO_ort, Px.endO_onx, Px.int_ev, Px.str_ev, Px.bl_ev, Px.non_ev, Px.var_ev, Px.varE_zd, Px.varE_zl, Px.consV_some, Px.varE_s, Px.op_ev, Px.nil_ev, Px.cons_ev, Px.tup_ev, Px.lst_ev, Px.cb_ev, Px.asB_b, Px.andV_ev, Px.orV_ev, Px.notV_ev, Px.of_ev, Px.and_ev, Px.or_ev, Px.not_ev, Px.yes_ev, Px.ttmp_ev, Px.ifE_ev, Px.tmp_ev, Px.flat_int, Px.flat_str, Px.flat_bool, Px.flat_none, Px.asL_l, Px.asT_t, Px.asI_i, Px.asK_d, Px.ofF_ev, Px.flst_ev, Px.lc_ev, Px.asD_d, Px.asF_f, Px.call_ev, Px.fcall_ev, Px.isi_ev, Px.bits_ev, Px.dget_ev, Px.din_ev, Px.rev_ev, Px.orT_ev, Px.qnone_lo, Px.qsome_lo, Px.sl_ev, Px.slL_f, Px.slT_f, Px.lenSeq_ev, Px.neg_ev, Px.add_f, Px.sub_f, Px.and_f, Px.or_f, Px.lt_f, Px.le_f, Px.gt_f, Px.ge_f, Px.eq_f, Px.ne_f, Px.flatQ_i, Px.flatQ_s, Px.flatQ_b, Px.isN_f, Px.notN_f, Px.ix_list, Px.ix_tuple, Px.len_f, Px.lenT_f, Px.tup_f, Px.tupT_f, Px.lst_f, Px.lstT_f, Px.max_f, Px.min_f, Px.int_f, Px.itList_ev, Px.itTup_ev, Px.itEnumT_ev, Px.itRng1_ev, Px.itVals_ev, Px.name_ev, Px.gtup_ev, Px.glst_ev, Px.stN_nil, Px.stN_cons, Px.seqK_nx, Px.seqK_rt, Px.seqK_rf, Px.seqK_bk, Px.seqK_ct, Px.seq_run, Px.next_run, Px.set_run, Px.setF_run, Px.asg_run, Px.ret_run, Px.retF_run, Px.ifS_run, Px.drop_run, Px.newK_run, Px.par2F_run, Px.forS_run, Px.whileS_run, Px.turnK_nx, Px.turnK_ct, Px.turnK_bk, Px.turnK_rt, Px.turnK_rf, Px.for_nil, Px.lcA_nil, Option.bind_some, List.length_cons, List.length_nil, List.length_map, if_true, reduceCtorEq, List.replicate_succ, List.replicate_zero, Nat.reduceAdd, Nat.reduceSub, Nat.reduceLeDiff, hr, draw_ev ex e, e2]
theorem one_ok {zs : List Str} {z : Str} (h : z ∈ zs) {c : Int} (hc : 1 ≤ c ∧ c ≤ 999999999) : PartsOk zs [(z, c)] :=
  ⟨by simpa using h, by simpa using hc⟩
theorem both_lc (a0 a1 a4 : Option AV) (z1 z2 : Str) : ∀ zs : List Str, lcA (Xg.name 6) (Xt.of (Xe.op (oIn false) (Xe.var 6) (Xe.tup (Xa.cons (Xe.var 2) (Xa.cons (Xe.var 3) Xa.nil))))) (Xe.tup (Xa.cons (Xe.var 6) (Xa.cons (Xe.int 1) Xa.nil))) [6] (zs.map .str) [a0, a1, some (.dat (.str z1)), some (.dat (.str z2)), a4, none, none, none] =
    some (((zs.filter fun z => decide (z ∈ [z1, z2])).map fun z => (z, (1 : Int))).map partD, [a0, a1, some (.dat (.str z1)), some (.dat (.str z2)), a4, none, none, none])
  | [] => rfl
  | z :: zs => by
    have e : (oIn false).f (.str z) (.tuple [.str z1, .str z2]) = some (.bool (decide (z ∈ [z1, z2]))) := by
      rw [inT_f rfl rfl, show [PyData.str z1, .str z2] = [z1, z2].map .str from rfl, inQ_str]
      rfl
    rw [List.map_cons, lcA_cons]
    simp only [Px.gt_zero, Px.gt_succ, Px.st_zero, Px.st_succ, Px.wp_nil, Px.wp_cons, Px.fz_nil, Px.fz_lst, Px.fz_dat, Px.fz_dct, Px.fz_seq, Px.fz_none, Px.tl_nil, Px.tl_cons, Px.ent_no, Px.ent_own, Px.ent_seq, Px.argN_no, Px.argN_own, Px.argN_seq, Px.endO_rt, Px.endO_nx, Px.endO_rf, Px.endO_srt, Px.endO_srf, Px.endO_ort, Px.endO_onx, Px.int_ev, Px.str_ev, Px.bl_ev, Px.non_ev, Px.var_ev, Px.varE_zd, Px.varE_zl, Px.consV_some, Px.varE_s, Px.op_ev, Px.nil_ev, Px.cons_ev, Px.tup_ev, Px.lst_ev, Px.cb_ev, Px.asB_b, Px.andV_ev, Px.orV_ev, Px.notV_ev, Px.of_ev, Px.and_ev, Px.or_ev, Px.not_ev, Px.yes_ev, Px.ttmp_ev, Px.ifE_ev, Px.tmp_ev, Px.flat_int, Px.flat_str, Px.flat_bool, Px.flat_none, Px.asL_l, Px.asT_t, Px.asI_i, Px.asK_d, Px.ofF_ev, Px.flst_ev, Px.lc_ev, Px.asD_d, Px.asF_f, Px.call_ev, Px.fcall_ev, Px.isi_ev, Px.bits_ev, Px.dget_ev, Px.din_ev, Px.rev_ev, Px.orT_ev, Px.qnone_lo, Px.qsome_lo, Px.sl_ev, Px.slL_f, Px.slT_f, Px.lenSeq_ev, Px.neg_ev, Px.add_f, Px.sub_f, Px.and_f, Px.or_f, Px.lt_f, Px.le_f, Px.gt_f, Px.ge_f, Px.eq_f, Px.ne_f, Px.flatQ_i, Px.flatQ_s, Px.flatQ_b, Px.isN_f, Px.notN_f, Px.ix_list, Px.ix_tuple, Px.len_f, Px.lenT_f, Px.tup_f, Px.tupT_f, Px.lst_f, Px.lstT_f, Px.max_f, Px.min_f, Px.int_f, Px.itList_ev, Px.itTup_ev, Px.itEnumT_ev, Px.itRng1_ev, Px.itVals_ev, Px.name_ev, Px.gtup_ev, Px.glst_ev, Px.stN_nil, Px.stN_cons, Px.seqK_nx, Px.seqK_rt, Px.seqK_rf, Px.seqK_bk, Px.seqK_ct, Px.seq_run, Px.next_run, Px.set_run, Px.setF_run, Px.asg_run, Px.ret_run, Px.retF_run, Px.ifS_run, Px.drop_run, Px.newK_run, Px.par2F_run, Px.forS_run, Px.whileS_run, Px.turnK_nx, Px.turnK_ct, Px.turnK_bk, Px.turnK_rt, Px.turnK_rf, Px.for_nil, Px.lcA_nil, Option.bind_some, List.length_cons, List.length_nil, List.length_map, if_true, reduceCtorEq, List.replicate_succ, List.replicate_zero, Nat.reduceAdd, Nat.reduceSub, Nat.reduceLeDiff, e]
    by_cases h : z ∈ [z1, z2]
    · rw [if_pos (decide_eq_true h)]
      rw [both_lc a0 a1 a4 z1 z2 zs, List.filter_cons_of_pos (by rw [decide_eq_true h])]
      rfl
    · rw [if_neg (by rw [decide_eq_false h]; decide)]
      rw [both_lc a0 a1 a4 z1 z2 zs, List.filter_cons_of_neg (by rw [decide_eq_false h]; decide)]
theorem even_is {n : Nat} {zs : List Str} {bs : List PyData} (h : PurseOk (n + 4) bs) (hz : zs ≠ []) (hl : zs.length ≤ 1000) : ∃ (ps qs : List (Str × Int)) (bs' : List PyData), f_Leven (.own bs) [strsD zs] = some (.dat (.list [.tuple (ps.map partD), .tuple (qs.map partD)]), bs') ∧ PartsOk zs ps ∧ PartsOk zs qs ∧ PurseOk n bs' := by
  obtain ⟨z1, bs1, m1, hp1, e1⟩ := ixdraw (n := n + 3) h hz hl (i := 0)
  obtain ⟨z2, bs2, m2, hp2, e2⟩ := ixdraw (n := n + 2) hp1 hz hl (i := 0)
  obtain ⟨c, bs3, e3, c0, c1, hp3⟩ := draw_is (n := n + 1) hp2 (m := 3) (by decide) (by decide)
  have E1 := e1 true [some (.dat (strsD zs)), none, none, none, none, none, none] rfl
  have E2 := e2 true [some (.dat (strsD zs)), some (.dat (.str z1)), none, none, none, none, none] rfl
  unfold f_Leven
  rw [fnOf_eq (by rfl)]
  unfold b_Leven
  rw [seq_run, set_run]
  show ∃ ps qs bs', endO _ (Option.bind (Option.bind (Xe.ev _ [some (.lst true bs), some (.dat (strsD zs)), none, none, none, none, none, none]) _) _) = _ ∧ _
  rw [E1]
  simp only [Option.bind_some, seqK_nx, st_succ, st_zero, Nat.reduceAdd]
  rw [seq_run, set_run]
  rw [E2]
  simp only [Option.bind_some, seqK_nx, st_succ, st_zero, Nat.reduceAdd]
  simp only [Px.gt_zero, Px.gt_succ, Px.st_zero, Px.st_succ, Px.wp_nil, Px.wp_cons, Px.fz_nil, Px.fz_lst, Px.fz_dat, Px.fz_dct, Px.fz_seq, Px.fz_none, Px.tl_nil, Px.tl_cons, Px.ent_no, Px.ent_own, Px.ent_seq, Px.argN_no, Px.argN_own, Px.argN_seq, Px.endO_rt, Px.endO_nx, Px.endO_rf, Px.endO_srt, Px.endO_srf, Px.endO_ort, Px.endO_onx, Px.int_ev, Px.str_ev, Px.bl_ev, Px.non_ev, Px.var_ev, Px.varE_zd, Px.varE_zl, Px.consV_some, Px.varE_s, Px.op_ev, Px.nil_ev, Px.cons_ev, Px.tup_ev, Px.lst_ev, Px.cb_ev, Px.asB_b, Px.andV_ev, Px.orV_ev, Px.notV_ev, Px.of_ev, Px.and_ev, Px.or_ev, Px.not_ev, Px.yes_ev, Px.ttmp_ev, Px.ifE_ev, Px.tmp_ev, Px.flat_int, Px.flat_str, Px.flat_bool, Px.flat_none, Px.asL_l, Px.asT_t, Px.asI_i, Px.asK_d, Px.ofF_ev, Px.flst_ev, Px.lc_ev, Px.asD_d, Px.asF_f, Px.call_ev, Px.fcall_ev, Px.isi_ev, Px.bits_ev, Px.dget_ev, Px.din_ev, Px.rev_ev, Px.orT_ev, Px.qnone_lo, Px.qsome_lo, Px.sl_ev, Px.slL_f, Px.slT_f, Px.lenSeq_ev, Px.neg_ev, Px.add_f, Px.sub_f, Px.and_f, Px.or_f, Px.lt_f, Px.le_f, Px.gt_f, Px.ge_f, Px.eq_f, Px.ne_f, Px.flatQ_i, Px.flatQ_s, Px.flatQ_b, Px.isN_f, Px.notN_f, Px.ix_list, Px.ix_tuple, Px.len_f, Px.lenT_f, Px.tup_f, Px.tupT_f, Px.lst_f, Px.lstT_f, Px.max_f, Px.min_f, Px.int_f, Px.itList_ev, Px.itTup_ev, Px.itEnumT_ev, Px.itRng1_ev, Px.itVals_ev, Px.name_ev, Px.gtup_ev, Px.glst_ev, Px.stN_nil, Px.stN_cons, Px.seqK_nx, Px.seqK_rt, Px.seqK_rf, Px.seqK_bk, Px.seqK_ct, Px.seq_run, Px.next_run, Px.set_run, Px.setF_run, Px.asg_run, Px.ret_run, Px.retF_run, Px.ifS_run, Px.drop_run, Px.newK_run, Px.par2F_run, Px.forS_run, Px.whileS_run, Px.turnK_nx, Px.turnK_ct, Px.turnK_bk, Px.turnK_rt, Px.turnK_rf, Px.for_nil, Px.lcA_nil, Option.bind_some, List.length_cons, List.length_nil, List.length_map, if_true, reduceCtorEq, List.replicate_succ, List.replicate_zero, Nat.reduceAdd, Nat.reduceSub, Nat.reduceLeDiff, draw_int e3]
  by_cases g : c = 0 ∨ z1 = z2
  · refine ⟨[(z1, 1)], [(z2, 1)], bs3, ?_, one_ok m1 (by decide), one_ok m2 (by decide), hp3.less (by omega)⟩
    rcases g with g | g
    · simp only [decide_eq_true g, Px.gt_zero, Px.gt_succ, Px.st_zero, Px.st_succ, Px.wp_nil, Px.wp_cons, Px.fz_nil, Px.fz_lst, Px.fz_dat, Px.fz_dct, Px.fz_seq, Px.fz_none, Px.tl_nil, Px.tl_cons, Px.ent_no, Px.ent_own, Px.ent_seq, Px.argN_no, Px.argN_own, Px.argN_seq, Px.endO_rt, Px.endO_nx, Px.endO_rf, Px.endO_srt, Px.endO_srf, Px.endO_ort, Px.endO_onx, Px.int_ev, Px.str_ev, Px.bl_ev, Px.non_ev, Px.var_ev, Px.varE_zd, Px.varE_zl, Px.consV_some, Px.varE_s, Px.op_ev, Px.nil_ev, Px.cons_ev, Px.tup_ev, Px.lst_ev, Px.cb_ev, Px.asB_b, Px.andV_ev, Px.orV_ev, Px.notV_ev, Px.of_ev, Px.and_ev, Px.or_ev, Px.not_ev, Px.yes_ev, Px.ttmp_ev, Px.ifE_ev, Px.tmp_ev, Px.flat_int, Px.flat_str, Px.flat_bool, Px.flat_none, Px.asL_l, Px.asT_t, Px.asI_i, Px.asK_d, Px.ofF_ev, Px.flst_ev, Px.lc_ev, Px.asD_d, Px.asF_f, Px.call_ev, Px.fcall_ev, Px.isi_ev, Px.bits_ev, Px.dget_ev, Px.din_ev, Px.rev_ev, Px.orT_ev, Px.qnone_lo, Px.qsome_lo, Px.sl_ev, Px.slL_f, Px.slT_f, Px.lenSeq_ev, Px.neg_ev, Px.add_f, Px.sub_f, Px.and_f, Px.or_f, Px.lt_f, Px.le_f, Px.gt_f, Px.ge_f, Px.eq_f, Px.ne_f, Px.flatQ_i, Px.flatQ_s, Px.flatQ_b, Px.isN_f, Px.notN_f, Px.ix_list, Px.ix_tuple, Px.len_f, Px.lenT_f, Px.tup_f, Px.tupT_f, Px.lst_f, Px.lstT_f, Px.max_f, Px.min_f, Px.int_f, Px.itList_ev, Px.itTup_ev, Px.itEnumT_ev, Px.itRng1_ev, Px.itVals_ev, Px.name_ev, Px.gtup_ev, Px.glst_ev, Px.stN_nil, Px.stN_cons, Px.seqK_nx, Px.seqK_rt, Px.seqK_rf, Px.seqK_bk, Px.seqK_ct, Px.seq_run, Px.next_run, Px.set_run, Px.setF_run, Px.asg_run, Px.ret_run, Px.retF_run, Px.ifS_run, Px.drop_run, Px.newK_run, Px.par2F_run, Px.forS_run, Px.whileS_run, Px.turnK_nx, Px.turnK_ct, Px.turnK_bk, Px.turnK_rt, Px.turnK_rf, Px.for_nil, Px.lcA_nil, Option.bind_some, List.length_cons, List.length_nil, List.length_map, if_true, reduceCtorEq, List.replicate_succ, List.replicate_zero, Nat.reduceAdd, Nat.reduceSub, Nat.reduceLeDiff]
      rfl
    · by_cases g0 : c = 0
      · simp only [decide_eq_true g0, Px.gt_zero, Px.gt_succ, Px.st_zero, Px.st_succ, Px.wp_nil, Px.wp_cons, Px.fz_nil, Px.fz_lst, Px.fz_dat, Px.fz_dct, Px.fz_seq, Px.fz_none, Px.tl_nil, Px.tl_cons, Px.ent_no, Px.ent_own, Px.ent_seq, Px.argN_no, Px.argN_own, Px.argN_seq, Px.endO_rt, Px.endO_nx, Px.endO_rf, Px.endO_srt, Px.endO_srf, Px.endO_ort, Px.endO_onx, Px.int_ev, Px.str_ev, Px.bl_ev, Px.non_ev, Px.var_ev, Px.varE_zd, Px.varE_zl, Px.consV_some, Px.varE_s, Px.op_ev, Px.nil_ev, Px.cons_ev, Px.tup_ev, Px.lst_ev, Px.cb_ev, Px.asB_b, Px.andV_ev, Px.orV_ev, Px.notV_ev, Px.of_ev, Px.and_ev, Px.or_ev, Px.not_ev, Px.yes_ev, Px.ttmp_ev, Px.ifE_ev, Px.tmp_ev, Px.flat_int, Px.flat_str, Px.flat_bool, Px.flat_none, Px.asL_l, Px.asT_t, Px.asI_i, Px.asK_d, Px.ofF_ev, Px.flst_ev, Px.lc_ev, Px.asD_d, Px.asF_f, Px.call_ev, Px.fcall_ev, Px.isi_ev, Px.bits_ev, Px.dget_ev, Px.din_ev, Px.rev_ev, Px.orT_ev, Px.qnone_lo, Px.qsome_lo, Px.sl_ev, Px.slL_f, Px.slT_f, Px.lenSeq_ev, Px.neg_ev, Px.add_f, Px.sub_f, Px.and_f, Px.or_f, Px.lt_f, Px.le_f, Px.gt_f, Px.ge_f, Px.eq_f, Px.ne_f, Px.flatQ_i, Px.flatQ_s, Px.flatQ_b, Px.isN_f, Px.notN_f, Px.ix_list, Px.ix_tuple, Px.len_f, Px.lenT_f, Px.tup_f, Px.tupT_f, Px.lst_f, Px.lstT_f, Px.max_f, Px.min_f, Px.int_f, Px.itList_ev, Px.itTup_ev, Px.itEnumT_ev, Px.itRng1_ev, Px.itVals_ev, Px.name_ev, Px.gtup_ev, Px.glst_ev, Px.stN_nil, Px.stN_cons, Px.seqK_nx, Px.seqK_rt, Px.seqK_rf, Px.seqK_bk, Px.seqK_ct, Px.seq_run, Px.next_run, Px.set_run, Px.setF_run, Px.asg_run, Px.ret_run, Px.retF_run, Px.ifS_run, Px.drop_run, Px.newK_run, Px.par2F_run, Px.forS_run, Px.whileS_run, Px.turnK_nx, Px.turnK_ct, Px.turnK_bk, Px.turnK_rt, Px.turnK_rf, Px.for_nil, Px.lcA_nil, Option.bind_some, List.length_cons, List.length_nil, List.length_map, if_true, reduceCtorEq, List.replicate_succ, List.replicate_zero, Nat.reduceAdd, Nat.reduceSub, Nat.reduceLeDiff]
        rfl
      · simp only [decide_eq_true g, decide_eq_false g0, Bool.false_eq_true, if_false, Px.gt_zero, Px.gt_succ, Px.st_zero, Px.st_succ, Px.wp_nil, Px.wp_cons, Px.fz_nil, Px.fz_lst, Px.fz_dat, Px.fz_dct, Px.fz_seq, Px.fz_none, Px.tl_nil, Px.tl_cons, Px.ent_no, Px.ent_own, Px.ent_seq, Px.argN_no, Px.argN_own, Px.argN_seq, Px.endO_rt, Px.endO_nx, Px.endO_rf, Px.endO_srt, Px.endO_srf, Px.endO_ort, Px.endO_onx, Px.int_ev, Px.str_ev, Px.bl_ev, Px.non_ev, Px.var_ev, Px.varE_zd, Px.varE_zl, Px.consV_some, Px.varE_s, Px.op_ev, Px.nil_ev, Px.cons_ev, Px.tup_ev, Px.lst_ev, Px.cb_ev, Px.asB_b, Px.andV_ev, Px.orV_ev, Px.notV_ev, Px.of_ev, Px.and_ev, Px.or_ev, Px.not_ev, Px.yes_ev, Px.ttmp_ev, Px.ifE_ev, Px.tmp_ev, Px.flat_int, Px.flat_str, Px.flat_bool, Px.flat_none, Px.asL_l, Px.asT_t, Px.asI_i, Px.asK_d, Px.ofF_ev, Px.flst_ev, Px.lc_ev, Px.asD_d, Px.asF_f, Px.call_ev, Px.fcall_ev, Px.isi_ev, Px.bits_ev, Px.dget_ev, Px.din_ev, Px.rev_ev, Px.orT_ev, Px.qnone_lo, Px.qsome_lo, Px.sl_ev, Px.slL_f, Px.slT_f, Px.lenSeq_ev, Px.neg_ev, Px.add_f, Px.sub_f, Px.and_f, Px.or_f, Px.lt_f, Px.le_f, Px.gt_f, Px.ge_f, Px.eq_f, Px.ne_f, Px.flatQ_i, Px.flatQ_s, Px.flatQ_b, Px.isN_f, Px.notN_f, Px.ix_list, Px.ix_tuple, Px.len_f, Px.lenT_f, Px.tup_f, Px.tupT_f, Px.lst_f, Px.lstT_f, Px.max_f, Px.min_f, Px.int_f, Px.itList_ev, Px.itTup_ev, Px.itEnumT_ev, Px.itRng1_ev, Px.itVals_ev, Px.name_ev, Px.gtup_ev, Px.glst_ev, Px.stN_nil, Px.stN_cons, Px.seqK_nx, Px.seqK_rt, Px.seqK_rf, Px.seqK_bk, Px.seqK_ct, Px.seq_run, Px.next_run, Px.set_run, Px.setF_run, Px.asg_run, Px.ret_run, Px.retF_run, Px.ifS_run, Px.drop_run, Px.newK_run, Px.par2F_run, Px.forS_run, Px.whileS_run, Px.turnK_nx, Px.turnK_ct, Px.turnK_bk, Px.turnK_rt, Px.turnK_rf, Px.for_nil, Px.lcA_nil, Option.bind_some, List.length_cons, List.length_nil, List.length_map, if_true, reduceCtorEq, List.replicate_succ, List.replicate_zero, Nat.reduceAdd, Nat.reduceSub, Nat.reduceLeDiff]
        rfl
  · have g1 : ¬ c = 0 := fun e => g (.inl e)
    have g2 : ¬ z1 = z2 := fun e => g (.inr e)
    obtain ⟨z3, bs4, m3, hp4, e4⟩ := ixdraw (n := n) hp3 hz hl (i := 0)
    have ea : asL (strsD zs) = some (zs.map .str) := rfl
    simp only [decide_eq_false g1, decide_eq_false g2, Bool.false_eq_true, if_false, Px.gt_zero, Px.gt_succ, Px.st_zero, Px.st_succ, Px.wp_nil, Px.wp_cons, Px.fz_nil, Px.fz_lst, Px.fz_dat, Px.fz_dct, Px.fz_seq, Px.fz_none, Px.tl_nil, Px.tl_cons, Px.ent_no, Px.ent_own, Px.ent_seq, Px.argN_no, Px.argN_own, Px.argN_seq, Px.endO_rt, Px.endO_nx, Px.endO_rf, Px.endO_srt, Px.endO_srf, Px.endO_ort, Px.endO_onx, Px.int_ev, Px.str_ev, Px.bl_ev, Px.non_ev, Px.var_ev, Px.varE_zd, Px.varE_zl, Px.consV_some, Px.varE_s, Px.op_ev, Px.nil_ev, Px.cons_ev, Px.tup_ev, Px.lst_ev, Px.cb_ev, Px.asB_b, Px.andV_ev, Px.orV_ev, Px.notV_ev, Px.of_ev, Px.and_ev, Px.or_ev, Px.not_ev, Px.yes_ev, Px.ttmp_ev, Px.ifE_ev, Px.tmp_ev, Px.flat_int, Px.flat_str, Px.flat_bool, Px.flat_none, Px.asL_l, Px.asT_t, Px.asI_i, Px.asK_d, Px.ofF_ev, Px.flst_ev, Px.lc_ev, Px.asD_d, Px.asF_f, Px.call_ev, Px.fcall_ev, Px.isi_ev, Px.bits_ev, Px.dget_ev, Px.din_ev, Px.rev_ev, Px.orT_ev, Px.qnone_lo, Px.qsome_lo, Px.sl_ev, Px.slL_f, Px.slT_f, Px.lenSeq_ev, Px.neg_ev, Px.add_f, Px.sub_f, Px.and_f, Px.or_f, Px.lt_f, Px.le_f, Px.gt_f, Px.ge_f, Px.eq_f, Px.ne_f, Px.flatQ_i, Px.flatQ_s, Px.flatQ_b, Px.isN_f, Px.notN_f, Px.ix_list, Px.ix_tuple, Px.len_f, Px.lenT_f, Px.tup_f, Px.tupT_f, Px.lst_f, Px.lstT_f, Px.max_f, Px.min_f, Px.int_f, Px.itList_ev, Px.itTup_ev, Px.itEnumT_ev, Px.itRng1_ev, Px.itVals_ev, Px.name_ev, Px.gtup_ev, Px.glst_ev, Px.stN_nil, Px.stN_cons, Px.seqK_nx, Px.seqK_rt, Px.seqK_rf, Px.seqK_bk, Px.seqK_ct, Px.seq_run, Px.next_run, Px.set_run, Px.setF_run, Px.asg_run, Px.ret_run, Px.retF_run, Px.ifS_run, Px.drop_run, Px.newK_run, Px.par2F_run, Px.forS_run, Px.whileS_run, Px.turnK_nx, Px.turnK_ct, Px.turnK_bk, Px.turnK_rt, Px.turnK_rf, Px.for_nil, Px.lcA_nil, Option.bind_some, List.length_cons, List.length_nil, List.length_map, if_true, reduceCtorEq, List.replicate_succ, List.replicate_zero, Nat.reduceAdd, Nat.reduceSub, Nat.reduceLeDiff, ea]
    rw [if_pos (show zs.length ≤ 50000 by omega), both_lc]
    simp only [Option.bind_some, Px.gt_zero, Px.gt_succ, Px.st_zero, Px.st_succ, Px.wp_nil, Px.wp_cons, Px.fz_nil, Px.fz_lst, Px.fz_dat, Px.fz_dct, Px.fz_seq, Px.fz_none, Px.tl_nil, Px.tl_cons, Px.ent_no, Px.ent_own, Px.ent_seq, Px.argN_no, Px.argN_own, Px.argN_seq, Px.endO_rt, Px.endO_nx, Px.endO_rf, Px.endO_srt, Px.endO_srf, Px.endO_ort, Px.endO_onx, Px.int_ev, Px.str_ev, Px.bl_ev, Px.non_ev, Px.var_ev, Px.varE_zd, Px.varE_zl, Px.consV_some, Px.varE_s, Px.op_ev, Px.nil_ev, Px.cons_ev, Px.tup_ev, Px.lst_ev, Px.cb_ev, Px.asB_b, Px.andV_ev, Px.orV_ev, Px.notV_ev, Px.of_ev, Px.and_ev, Px.or_ev, Px.not_ev, Px.yes_ev, Px.ttmp_ev, Px.ifE_ev, Px.tmp_ev, Px.flat_int, Px.flat_str, Px.flat_bool, Px.flat_none, Px.asL_l, Px.asT_t, Px.asI_i, Px.asK_d, Px.ofF_ev, Px.flst_ev, Px.lc_ev, Px.asD_d, Px.asF_f, Px.call_ev, Px.fcall_ev, Px.isi_ev, Px.bits_ev, Px.dget_ev, Px.din_ev, Px.rev_ev, Px.orT_ev, Px.qnone_lo, Px.qsome_lo, Px.sl_ev, Px.slL_f, Px.slT_f, Px.lenSeq_ev, Px.neg_ev, Px.add_f, Px.sub_f, Px.and_f, Px.or_f, Px.lt_f, Px.le_f, Px.gt_f, Px.ge_f, Px.eq_f, Px.ne_f, Px.flatQ_i, Px.flatQ_s, Px.flatQ_b, Px.isN_f, Px.notN_f, Px.ix_list, Px.ix_tuple, Px.len_f, Px.lenT_f, Px.tup_f, Px.tupT_f, Px.lst_f, Px.lstT_f, Px.max_f, Px.min_f, Px.int_f, Px.itList_ev, Px.itTup_ev, Px.itEnumT_ev, Px.itRng1_ev, Px.itVals_ev, Px.name_ev, Px.gtup_ev, Px.glst_ev, Px.stN_nil, Px.stN_cons, Px.seqK_nx, Px.seqK_rt, Px.seqK_rf, Px.seqK_bk, Px.seqK_ct, Px.seq_run, Px.next_run, Px.set_run, Px.setF_run, Px.asg_run, Px.ret_run, Px.retF_run, Px.ifS_run, Px.drop_run, Px.newK_run, Px.par2F_run, Px.forS_run, Px.whileS_run, Px.turnK_nx, Px.turnK_ct, Px.turnK_bk, Px.turnK_rt, Px.turnK_rf, Px.for_nil, Px.lcA_nil, Option.bind_some, List.length_cons, List.length_nil, List.length_map, if_true, reduceCtorEq, List.replicate_succ, List.replicate_zero, Nat.reduceAdd, Nat.reduceSub, Nat.reduceLeDiff]
    have E4 := e4 true [some (.dat (strsD zs)), some (.dat (.str z1)), some (.dat (.str z2)), some (.dat (.int c)), some (.dat (.tuple (((zs.filter fun z => decide (z ∈ [z1, z2])).map fun z => (z, (1 : Int))).map partD))), none, none] rfl
    simp only [Px.gt_zero, Px.gt_succ, Px.st_zero, Px.st_succ, Px.wp_nil, Px.wp_cons, Px.fz_nil, Px.fz_lst, Px.fz_dat, Px.fz_dct, Px.fz_seq, Px.fz_none, Px.tl_nil, Px.tl_cons, Px.ent_no, Px.ent_own, Px.ent_seq, Px.argN_no, Px.argN_own, Px.argN_seq, Px.endO_rt, Px.endO_nx, Px.endO_rf, Px.endO_srt, Px.endO_srf, Px.endO_ort, Px.endO_onx, Px.int_ev, Px.str_ev, Px.bl_ev, Px.non_ev, Px.var_ev, Px.varE_zd, Px.varE_zl, Px.consV_some, Px.varE_s, Px.op_ev, Px.nil_ev, Px.cons_ev, Px.tup_ev, Px.lst_ev, Px.cb_ev, Px.asB_b, Px.andV_ev, Px.orV_ev, Px.notV_ev, Px.of_ev, Px.and_ev, Px.or_ev, Px.not_ev, Px.yes_ev, Px.ttmp_ev, Px.ifE_ev, Px.tmp_ev, Px.flat_int, Px.flat_str, Px.flat_bool, Px.flat_none, Px.asL_l, Px.asT_t, Px.asI_i, Px.asK_d, Px.ofF_ev, Px.flst_ev, Px.lc_ev, Px.asD_d, Px.asF_f, Px.call_ev, Px.fcall_ev, Px.isi_ev, Px.bits_ev, Px.dget_ev, Px.din_ev, Px.rev_ev, Px.orT_ev, Px.qnone_lo, Px.qsome_lo, Px.sl_ev, Px.slL_f, Px.slT_f, Px.lenSeq_ev, Px.neg_ev, Px.add_f, Px.sub_f, Px.and_f, Px.or_f, Px.lt_f, Px.le_f, Px.gt_f, Px.ge_f, Px.eq_f, Px.ne_f, Px.flatQ_i, Px.flatQ_s, Px.flatQ_b, Px.isN_f, Px.notN_f, Px.ix_list, Px.ix_tuple, Px.len_f, Px.lenT_f, Px.tup_f, Px.tupT_f, Px.lst_f, Px.lstT_f, Px.max_f, Px.min_f, Px.int_f, Px.itList_ev, Px.itTup_ev, Px.itEnumT_ev, Px.itRng1_ev, Px.itVals_ev, Px.name_ev, Px.gtup_ev, Px.glst_ev, Px.stN_nil, Px.stN_cons, Px.seqK_nx, Px.seqK_rt, Px.seqK_rf, Px.seqK_bk, Px.seqK_ct, Px.seq_run, Px.next_run, Px.set_run, Px.setF_run, Px.asg_run, Px.ret_run, Px.retF_run, Px.ifS_run, Px.drop_run, Px.newK_run, Px.par2F_run, Px.forS_run, Px.whileS_run, Px.turnK_nx, Px.turnK_ct, Px.turnK_bk, Px.turnK_rt, Px.turnK_rf, Px.for_nil, Px.lcA_nil, Option.bind_some, List.length_cons, List.length_nil, List.length_map, if_true, reduceCtorEq, List.replicate_succ, List.replicate_zero, Nat.reduceAdd, Nat.reduceSub, Nat.reduceLeDiff] at E4
    rw [E4]
    simp only [Px.gt_zero, Px.gt_succ, Px.st_zero, Px.st_succ, Px.wp_nil, Px.wp_cons, Px.fz_nil, Px.fz_lst, Px.fz_dat, Px.fz_dct, Px.fz_seq, Px.fz_none, Px.tl_nil, Px.tl_cons, Px.ent_no, Px.ent_own, Px.ent_seq, Px.argN_no, Px.argN_own, Px.argN_seq, Px.endO_rt, Px.endO_nx, Px.endO_rf, Px.endO_srt, Px.endO_srf, Px.endO_ort, Px.endO_onx, Px.int_ev, Px.str_ev, Px.bl_ev, Px.non_ev, Px.var_ev, Px.varE_zd, Px.varE_zl, Px.consV_some, Px.varE_s, Px.op_ev, Px.nil_ev, Px.cons_ev, Px.tup_ev, Px.lst_ev, Px.cb_ev, Px.asB_b, Px.andV_ev, Px.orV_ev, Px.notV_ev, Px.of_ev, Px.and_ev, Px.or_ev, Px.not_ev, Px.yes_ev, Px.ttmp_ev, Px.ifE_ev, Px.tmp_ev, Px.flat_int, Px.flat_str, Px.flat_bool, Px.flat_none, Px.asL_l, Px.asT_t, Px.asI_i, Px.asK_d, Px.ofF_ev, Px.flst_ev, Px.lc_ev, Px.asD_d, Px.asF_f, Px.call_ev, Px.fcall_ev, Px.isi_ev, Px.bits_ev, Px.dget_ev, Px.din_ev, Px.rev_ev, Px.orT_ev, Px.qnone_lo, Px.qsome_lo, Px.sl_ev, Px.slL_f, Px.slT_f, Px.lenSeq_ev, Px.neg_ev, Px.add_f, Px.sub_f, Px.and_f, Px.or_f, Px.lt_f, Px.le_f, Px.gt_f, Px.ge_f, Px.eq_f, Px.ne_f, Px.flatQ_i, Px.flatQ_s, Px.flatQ_b, Px.isN_f, Px.notN_f, Px.ix_list, Px.ix_tuple, Px.len_f, Px.lenT_f, Px.tup_f, Px.tupT_f, Px.lst_f, Px.lstT_f, Px.max_f, Px.min_f, Px.int_f, Px.itList_ev, Px.itTup_ev, Px.itEnumT_ev, Px.itRng1_ev, Px.itVals_ev, Px.name_ev, Px.gtup_ev, Px.glst_ev, Px.stN_nil, Px.stN_cons, Px.seqK_nx, Px.seqK_rt, Px.seqK_rf, Px.seqK_bk, Px.seqK_ct, Px.seq_run, Px.next_run, Px.set_run, Px.setF_run, Px.asg_run, Px.ret_run, Px.retF_run, Px.ifS_run, Px.drop_run, Px.newK_run, Px.par2F_run, Px.forS_run, Px.whileS_run, Px.turnK_nx, Px.turnK_ct, Px.turnK_bk, Px.turnK_rt, Px.turnK_rf, Px.for_nil, Px.lcA_nil, Option.bind_some, List.length_cons, List.length_nil, List.length_map, if_true, reduceCtorEq, List.replicate_succ, List.replicate_zero, Nat.reduceAdd, Nat.reduceSub, Nat.reduceLeDiff, Px.ix_list]
    have hb : PartsOk zs ((zs.filter fun z => decide (z ∈ [z1, z2])).map fun z => (z, (1 : Int))) := by
      refine ⟨?_, fun q hq => ?_⟩
      · rw [List.map_map]
        show (List.map id _).Sublist zs
        rw [List.map_id]
        exact List.filter_sublist
      · obtain ⟨z, _, rfl⟩ := List.mem_map.mp hq
        exact ⟨show (1 : Int) ≤ 1 by decide, show (1 : Int) ≤ 999999999 by decide⟩
    have c3 : c = 1 ∨ c = 2 := by omega
    rcases c3 with rfl | rfl
    · exact ⟨_, [(z3, 2)], bs4, rfl, hb, one_ok m3 (by decide), hp4⟩
    · exact ⟨[(z3, 2)], _, bs4, rfl, one_ok m3 (by decide), hb, hp4⟩
end Nt

set_option Elab.async false
set_option linter.all false
set_option autoImplicit false
set_option maxRecDepth 100000
set_option maxHeartbeats 4000000
/-! The law's own nets: names, places, sets. -/
namespace Nt
open PySem PySem.Spec PyProof.Rows L2 Lw Px
theorem intsD_zero (j : Int) : intsD j 0 = [] := rfl
theorem places_lc {i : Nat} {m k : Int} (hm : 0 < m ∧ m < 100) (hk : 0 < k ∧ k < 100) {b : Bool} {r : AE} (h1 : ∀ d, varE (st r i (some (.dat d))) i = some (d, st r i (some (.dat d)))) (h2 : ∀ d, st (st r i (some (.dat d))) i none = r) {n : Nat} : ∀ (zs : List Str) (bs : List PyData), PurseOk (n + zs.length) bs →
    ∃ (qs : List (Str × Int)) (bs' : List PyData), lcA (Xg.name (i + 1)) Xt.yes (Xe.tup (Xa.cons (Xe.var (i + 1)) (Xa.cons (Xe.op oDiv (Xe.callM f_Ldraw 0 (Xa.cons (Xe.int m) Xa.nil)) (Xe.int k)) Xa.nil))) [i + 1] (zs.map .str) (some (.lst b bs) :: r) =
      some (qs.map partD, some (.lst b bs') :: r) ∧ qs.map (·.1) = zs ∧ (∀ q ∈ qs, 0 ≤ q.2 ∧ q.2 ≤ 999999999) ∧ PurseOk n bs'
  | [], bs, h => ⟨[], bs, rfl, rfl, by simp, h⟩
  | z :: zs, bs, h => by
    obtain ⟨d, bs1, e, d0, d1, hp⟩ := draw_is (n := n + zs.length) (h.less (by simp only [List.length_cons]; omega)) (m := m) hm.1 (by omega)
    obtain ⟨qs, bs2, g1, g2, g3, g4⟩ := places_lc hm hk (b := b) h1 h2 zs bs1 hp
    refine ⟨(z, d / k) :: qs, bs2, ?_, by rw [List.map_cons, g2], fun q hq => ?_, g4⟩
    · rw [List.map_cons, lcA_cons]
      simp only [Px.gt_zero, Px.gt_succ, Px.st_zero, Px.st_succ, Px.wp_nil, Px.wp_cons, Px.fz_nil, Px.fz_lst, Px.fz_dat, Px.fz_dct, Px.fz_seq, Px.fz_none, Px.tl_nil, Px.tl_cons, Px.ent_no, Px.ent_own, Px.ent_seq, Px.argN_no, Px.argN_own, Px.argN_seq, Px.endO_rt, Px.endO_nx, Px.endO_rf, Px.endO_srt, Px.endO_srf, Px.endO_ort, Px.endO_onx, Px.int_ev, Px.str_ev, Px.bl_ev, Px.non_ev, Px.var_ev, Px.varE_zd, Px.varE_zl, Px.consV_some, Px.varE_s, Px.op_ev, Px.nil_ev, Px.cons_ev, Px.tup_ev, Px.lst_ev, Px.cb_ev, Px.asB_b, Px.andV_ev, Px.orV_ev, Px.notV_ev, Px.of_ev, Px.and_ev, Px.or_ev, Px.not_ev, Px.yes_ev, Px.ttmp_ev, Px.ifE_ev, Px.tmp_ev, Px.flat_int, Px.flat_str, Px.flat_bool, Px.flat_none, Px.asL_l, Px.asT_t, Px.asI_i, Px.asK_d, Px.ofF_ev, Px.flst_ev, Px.lc_ev, Px.asD_d, Px.asF_f, Px.call_ev, Px.fcall_ev, Px.isi_ev, Px.bits_ev, Px.dget_ev, Px.din_ev, Px.rev_ev, Px.orT_ev, Px.qnone_lo, Px.qsome_lo, Px.sl_ev, Px.slL_f, Px.slT_f, Px.lenSeq_ev, Px.neg_ev, Px.add_f, Px.sub_f, Px.and_f, Px.or_f, Px.lt_f, Px.le_f, Px.gt_f, Px.ge_f, Px.eq_f, Px.ne_f, Px.flatQ_i, Px.flatQ_s, Px.flatQ_b, Px.isN_f, Px.notN_f, Px.ix_list, Px.ix_tuple, Px.len_f, Px.lenT_f, Px.tup_f, Px.tupT_f, Px.lst_f, Px.lstT_f, Px.max_f, Px.min_f, Px.int_f, Px.itList_ev, Px.itTup_ev, Px.itEnumT_ev, Px.itRng1_ev, Px.itVals_ev, Px.name_ev, Px.gtup_ev, Px.glst_ev, Px.stN_nil, Px.stN_cons, Px.seqK_nx, Px.seqK_rt, Px.seqK_rf, Px.seqK_bk, Px.seqK_ct, Px.seq_run, Px.next_run, Px.set_run, Px.setF_run, Px.asg_run, Px.ret_run, Px.retF_run, Px.ifS_run, Px.drop_run, Px.newK_run, Px.par2F_run, Px.forS_run, Px.whileS_run, Px.turnK_nx, Px.turnK_ct, Px.turnK_bk, Px.turnK_rt, Px.turnK_rf, Px.for_nil, Px.lcA_nil, Option.bind_some, List.length_cons, List.length_nil, List.length_map, if_true, reduceCtorEq, List.replicate_succ, List.replicate_zero, Nat.reduceAdd, Nat.reduceSub, Nat.reduceLeDiff, h1, draw_int e]
      rw [div_f ⟨hk.1, by
        have : k.natAbs < 100 := by omega
        have : k.natAbs.log2 ≤ k.natAbs := Nat.log2_le_self _
        omega⟩]
      simp only [Px.gt_zero, Px.gt_succ, Px.st_zero, Px.st_succ, Px.wp_nil, Px.wp_cons, Px.fz_nil, Px.fz_lst, Px.fz_dat, Px.fz_dct, Px.fz_seq, Px.fz_none, Px.tl_nil, Px.tl_cons, Px.ent_no, Px.ent_own, Px.ent_seq, Px.argN_no, Px.argN_own, Px.argN_seq, Px.endO_rt, Px.endO_nx, Px.endO_rf, Px.endO_srt, Px.endO_srf, Px.endO_ort, Px.endO_onx, Px.int_ev, Px.str_ev, Px.bl_ev, Px.non_ev, Px.var_ev, Px.varE_zd, Px.varE_zl, Px.consV_some, Px.varE_s, Px.op_ev, Px.nil_ev, Px.cons_ev, Px.tup_ev, Px.lst_ev, Px.cb_ev, Px.asB_b, Px.andV_ev, Px.orV_ev, Px.notV_ev, Px.of_ev, Px.and_ev, Px.or_ev, Px.not_ev, Px.yes_ev, Px.ttmp_ev, Px.ifE_ev, Px.tmp_ev, Px.flat_int, Px.flat_str, Px.flat_bool, Px.flat_none, Px.asL_l, Px.asT_t, Px.asI_i, Px.asK_d, Px.ofF_ev, Px.flst_ev, Px.lc_ev, Px.asD_d, Px.asF_f, Px.call_ev, Px.fcall_ev, Px.isi_ev, Px.bits_ev, Px.dget_ev, Px.din_ev, Px.rev_ev, Px.orT_ev, Px.qnone_lo, Px.qsome_lo, Px.sl_ev, Px.slL_f, Px.slT_f, Px.lenSeq_ev, Px.neg_ev, Px.add_f, Px.sub_f, Px.and_f, Px.or_f, Px.lt_f, Px.le_f, Px.gt_f, Px.ge_f, Px.eq_f, Px.ne_f, Px.flatQ_i, Px.flatQ_s, Px.flatQ_b, Px.isN_f, Px.notN_f, Px.ix_list, Px.ix_tuple, Px.len_f, Px.lenT_f, Px.tup_f, Px.tupT_f, Px.lst_f, Px.lstT_f, Px.max_f, Px.min_f, Px.int_f, Px.itList_ev, Px.itTup_ev, Px.itEnumT_ev, Px.itRng1_ev, Px.itVals_ev, Px.name_ev, Px.gtup_ev, Px.glst_ev, Px.stN_nil, Px.stN_cons, Px.seqK_nx, Px.seqK_rt, Px.seqK_rf, Px.seqK_bk, Px.seqK_ct, Px.seq_run, Px.next_run, Px.set_run, Px.setF_run, Px.asg_run, Px.ret_run, Px.retF_run, Px.ifS_run, Px.drop_run, Px.newK_run, Px.par2F_run, Px.forS_run, Px.whileS_run, Px.turnK_nx, Px.turnK_ct, Px.turnK_bk, Px.turnK_rt, Px.turnK_rf, Px.for_nil, Px.lcA_nil, Option.bind_some, List.length_cons, List.length_nil, List.length_map, if_true, reduceCtorEq, List.replicate_succ, List.replicate_zero, Nat.reduceAdd, Nat.reduceSub, Nat.reduceLeDiff, h2, g1]
      rfl
    · rcases List.mem_cons.mp hq with rfl | hq
      · have a1 : 0 ≤ d / k := Int.ediv_nonneg d0 (by omega)
        have a2 : d / k ≤ d := Int.ediv_le_self _ d0
        show 0 ≤ d / k ∧ d / k ≤ 999999999
        omega
      · exact g3 q hq
def names5 : List Str := ["pa", "b", "c2", "dd", "e"]
theorem names5_ok : names5.Nodup ∧ (∀ z ∈ names5, nameOk z = true) ∧ (∀ z ∈ names5, okS z = true) := by decide +kernel
theorem cut5 {d : Int} (h0 : 0 < d) (h1 : d ≤ 5) : ∃ zs : List Str, cutD [.str "pa", .str "b", .str "c2", .str "dd", .str "e"] none (some d) = zs.map .str ∧ zs.Sublist names5 ∧ zs.length = d.toNat := by
  have : d = 1 ∨ d = 2 ∨ d = 3 ∨ d = 4 ∨ d = 5 := by omega
  rcases this with rfl | rfl | rfl | rfl | rfl
  · exact ⟨["pa"], rfl, by decide +kernel, rfl⟩
  · exact ⟨["pa", "b"], rfl, by decide +kernel, rfl⟩
  · exact ⟨["pa", "b", "c2"], rfl, by decide +kernel, rfl⟩
  · exact ⟨["pa", "b", "c2", "dd"], rfl, by decide +kernel, rfl⟩
  · exact ⟨["pa", "b", "c2", "dd", "e"], rfl, by decide +kernel, rfl⟩
end Nt

set_option Elab.async false
set_option linter.all false
set_option autoImplicit false
set_option maxRecDepth 100000
set_option maxHeartbeats 4000000
/-! The law's own nets: firings. -/
namespace Nt
open PySem PySem.Spec PyProof.Rows L2 Lw Px
def dg : Nat → Str
  | 0 => "0"
  | 1 => "1"
  | 2 => "2"
  | 3 => "3"
  | 4 => "4"
  | _ => "5"
def tn : Nat → Str
  | 0 => "t0"
  | 1 => "t1"
  | 2 => "t2"
  | 3 => "t3"
  | 4 => "t4"
  | _ => "t5"
theorem six {k : Nat} (h : k < 6) : k = 0 ∨ k = 1 ∨ k = 2 ∨ k = 3 ∨ k = 4 ∨ k = 5 := by omega
theorem dg_f {k : Nat} (h : k < 6) : bStrI.f [.int (k : Int)] = some (.str (dg k)) := by
  rcases six h with rfl | rfl | rfl | rfl | rfl | rfl <;> (rw [str_f (by decide)]; rfl)
theorem tn_f {k : Nat} (h : k < 6) : oAddS.f (.str "t") (.str (dg k)) = some (.str (tn k)) := by
  rcases six h with rfl | rfl | rfl | rfl | rfl | rfl <;> (rw [addS_f (by decide)]; rfl)
theorem tn_ok {k : Nat} (h : k < 6) : NmOk (tn k) := by
  unfold NmOk
  rcases six h with rfl | rfl | rfl | rfl | rfl | rfl <;> decide +kernel
theorem tn_nd {k : Nat} (h : k ≤ 6) : ((List.range k).map tn).Nodup := by
  have : k < 6 ∨ k = 6 := by omega
  rcases this with h | rfl
  · rcases six h with rfl | rfl | rfl | rfl | rfl | rfl <;> decide +kernel
  · decide +kernel
structure Fires (zs : List Str) (k : Nat) (fs : List Fire) : Prop where
  nm : fs.map (·.1) = (List.range k).map tn
  ok : ∀ f ∈ fs, (f.2.1 = "" ∨ NmOk f.2.1) ∧ PartsOk zs f.2.2.1 ∧ PartsOk zs f.2.2.2
theorem Fires.nil {zs : List Str} : Fires zs 0 [] := ⟨rfl, by simp⟩
theorem Fires.len {zs : List Str} {k : Nat} {fs : List Fire} (h : Fires zs k fs) : fs.length = k := by
  have := congrArg List.length h.nm
  simpa using this
theorem Fires.snoc {zs : List Str} {k : Nat} {fs : List Fire} (h : Fires zs k fs) {l : Str} (hl : l = "" ∨ NmOk l) {ps qs : List (Str × Int)} (hp : PartsOk zs ps) (hq : PartsOk zs qs) : Fires zs (k + 1) (fs ++ [(tn k, l, ps, qs)]) := by
  refine ⟨?_, fun f hf => ?_⟩
  · rw [List.map_append, h.nm, List.range_succ, List.map_append]
    rfl
  · rcases List.mem_append.mp hf with hf | hf
    · exact h.ok f hf
    · rw [List.mem_singleton.mp hf]
      exact ⟨hl, hp, hq⟩
theorem net_of {zs : List Str} {qs : List (Str × Int)} {fs : List Fire} {k : Nat} (h : Fires zs k fs) (hk : k ≤ 6) (hq : qs.map (·.1) = zs) (hz : zs.Sublist names5) (hn : zs ≠ []) (hc : ∀ q ∈ qs, 0 ≤ q.2 ∧ q.2 ≤ 999999999) : NetG qs fs ∧ qs.length ≤ 5 := by
  obtain ⟨n1, n2, n3⟩ := names5_ok
  have hl : qs.length = zs.length := by rw [← hq, List.length_map]
  have h5 := hz.length_le
  have h5' : zs.length ≤ 5 := h5
  have hp : 0 < zs.length := List.length_pos_iff.mpr hn
  refine ⟨⟨by rw [hq]; exact hz.nodup n1, fun q hq' => ?_, by omega, by omega, hc, by rw [h.nm]; exact tn_nd hk, fun f hf => ?_, by rw [h.len]; omega, fun f hf => (h.ok f hf).1, fun f hf => by rw [hq]; exact (h.ok f hf).2.1, fun f hf => by rw [hq]; exact (h.ok f hf).2.2⟩, by omega⟩
  · have : q.1 ∈ names5 := hz.subset (hq ▸ List.mem_map.mpr ⟨q, hq', rfl⟩)
    exact ⟨n2 _ this, n3 _ this⟩
  · have : f.1 ∈ (List.range k).map tn := h.nm ▸ List.mem_map.mpr ⟨f, hf, rfl⟩
    obtain ⟨j, hj, e⟩ := List.mem_map.mp this
    rw [← e]
    exact tn_ok (by have := List.mem_range.mp hj; omega)
theorem even_ev {b : Bool} {bs bs' : List PyData} {r : AE} {i : Nat} {N d : PyData} (hr : varE r i = some (N, r)) (h : f_Leven (.own bs) [N] = some (.dat d, bs')) :
    (Xe.callM f_Leven 0 (Xa.cons (Xe.var (i + 1)) Xa.nil)).ev (some (.lst b bs) :: r) = some (d, some (.lst b bs') :: r) := by
  have hxs : (Xa.cons (Xe.var (i + 1)) Xa.nil).ev (some (.lst b bs) :: r) = some ([N], some (.lst b bs) :: r) := by
    simp only [Px.gt_zero, Px.gt_succ, Px.st_zero, Px.st_succ, Px.wp_nil, Px.wp_cons, Px.fz_nil, Px.fz_lst, Px.fz_dat, Px.fz_dct, Px.fz_seq, Px.fz_none, Px.tl_nil, Px.tl_cons, Px.ent_no, Px.ent_own, Px.ent_seq, Px.argN_no, Px.argN_own, Px.argN_seq, Px.endO_rt, Px.endO_nx, Px.endO_rf, Px.endO_srt, Px.endO_srf, Px.endO_ort, Px.endO_onx, Px.int_ev, Px.str_ev, Px.bl_ev, Px.non_ev, Px.var_ev, Px.varE_zd, Px.varE_zl, Px.consV_some, Px.varE_s, Px.op_ev, Px.nil_ev, Px.cons_ev, Px.tup_ev, Px.lst_ev, Px.cb_ev, Px.asB_b, Px.andV_ev, Px.orV_ev, Px.notV_ev, Px.of_ev, Px.and_ev, Px.or_ev, Px.not_ev, Px.yes_ev, Px.ttmp_ev, Px.ifE_ev, Px.tmp_ev, Px.flat_int, Px.flat_str, Px.flat_bool, Px.flat_none, Px.asL_l, Px.asT_t, Px.asI_i, Px.asK_d, Px.ofF_ev, Px.flst_ev, Px.lc_ev, Px.asD_d, Px.asF_f, Px.call_ev, Px.fcall_ev, Px.isi_ev, Px.bits_ev, Px.dget_ev, Px.din_ev, Px.rev_ev, Px.orT_ev, Px.qnone_lo, Px.qsome_lo, Px.sl_ev, Px.slL_f, Px.slT_f, Px.lenSeq_ev, Px.neg_ev, Px.add_f, Px.sub_f, Px.and_f, Px.or_f, Px.lt_f, Px.le_f, Px.gt_f, Px.ge_f, Px.eq_f, Px.ne_f, Px.flatQ_i, Px.flatQ_s, Px.flatQ_b, Px.isN_f, Px.notN_f, Px.ix_list, Px.ix_tuple, Px.len_f, Px.lenT_f, Px.tup_f, Px.tupT_f, Px.lst_f, Px.lstT_f, Px.max_f, Px.min_f, Px.int_f, Px.itList_ev, Px.itTup_ev, Px.itEnumT_ev, Px.itRng1_ev, Px.itVals_ev, Px.name_ev, Px.gtup_ev, Px.glst_ev, Px.stN_nil, Px.stN_cons, Px.seqK_nx, Px.seqK_rt, Px.seqK_rf, Px.seqK_bk, Px.seqK_ct, Px.seq_run, Px.next_run, Px.set_run, Px.setF_run, Px.asg_run, Px.ret_run, Px.retF_run, Px.ifS_run, Px.drop_run, Px.newK_run, Px.par2F_run, Px.forS_run, Px.whileS_run, Px.turnK_nx, Px.turnK_ct, Px.turnK_bk, Px.turnK_rt, Px.turnK_rf, Px.for_nil, Px.lcA_nil, Option.bind_some, List.length_cons, List.length_nil, List.length_map, if_true, reduceCtorEq, List.replicate_succ, List.replicate_zero, Nat.reduceAdd, Nat.reduceSub, Nat.reduceLeDiff, hr]
  exact callM_ev (i := 0) (b0 := b) (ds := bs) rfl hxs rfl h
theorem parts_ev {b : Bool} {bs bs' : List PyData} {r : AE} {i : Nat} {N d : PyData} {m : Int} (hr : varE r i = some (N, r)) (h : f_Lparts (.own bs) [N, .int m] = some (.dat d, bs')) :
    (Xe.callM f_Lparts 0 (Xa.cons (Xe.var (i + 1)) (Xa.cons (Xe.int m) Xa.nil))).ev (some (.lst b bs) :: r) = some (d, some (.lst b bs') :: r) := by
  have hxs : (Xa.cons (Xe.var (i + 1)) (Xa.cons (Xe.int m) Xa.nil)).ev (some (.lst b bs) :: r) = some ([N, .int m], some (.lst b bs) :: r) := by
    simp only [Px.gt_zero, Px.gt_succ, Px.st_zero, Px.st_succ, Px.wp_nil, Px.wp_cons, Px.fz_nil, Px.fz_lst, Px.fz_dat, Px.fz_dct, Px.fz_seq, Px.fz_none, Px.tl_nil, Px.tl_cons, Px.ent_no, Px.ent_own, Px.ent_seq, Px.argN_no, Px.argN_own, Px.argN_seq, Px.endO_rt, Px.endO_nx, Px.endO_rf, Px.endO_srt, Px.endO_srf, Px.endO_ort, Px.endO_onx, Px.int_ev, Px.str_ev, Px.bl_ev, Px.non_ev, Px.var_ev, Px.varE_zd, Px.varE_zl, Px.consV_some, Px.varE_s, Px.op_ev, Px.nil_ev, Px.cons_ev, Px.tup_ev, Px.lst_ev, Px.cb_ev, Px.asB_b, Px.andV_ev, Px.orV_ev, Px.notV_ev, Px.of_ev, Px.and_ev, Px.or_ev, Px.not_ev, Px.yes_ev, Px.ttmp_ev, Px.ifE_ev, Px.tmp_ev, Px.flat_int, Px.flat_str, Px.flat_bool, Px.flat_none, Px.asL_l, Px.asT_t, Px.asI_i, Px.asK_d, Px.ofF_ev, Px.flst_ev, Px.lc_ev, Px.asD_d, Px.asF_f, Px.call_ev, Px.fcall_ev, Px.isi_ev, Px.bits_ev, Px.dget_ev, Px.din_ev, Px.rev_ev, Px.orT_ev, Px.qnone_lo, Px.qsome_lo, Px.sl_ev, Px.slL_f, Px.slT_f, Px.lenSeq_ev, Px.neg_ev, Px.add_f, Px.sub_f, Px.and_f, Px.or_f, Px.lt_f, Px.le_f, Px.gt_f, Px.ge_f, Px.eq_f, Px.ne_f, Px.flatQ_i, Px.flatQ_s, Px.flatQ_b, Px.isN_f, Px.notN_f, Px.ix_list, Px.ix_tuple, Px.len_f, Px.lenT_f, Px.tup_f, Px.tupT_f, Px.lst_f, Px.lstT_f, Px.max_f, Px.min_f, Px.int_f, Px.itList_ev, Px.itTup_ev, Px.itEnumT_ev, Px.itRng1_ev, Px.itVals_ev, Px.name_ev, Px.gtup_ev, Px.glst_ev, Px.stN_nil, Px.stN_cons, Px.seqK_nx, Px.seqK_rt, Px.seqK_rf, Px.seqK_bk, Px.seqK_ct, Px.seq_run, Px.next_run, Px.set_run, Px.setF_run, Px.asg_run, Px.ret_run, Px.retF_run, Px.ifS_run, Px.drop_run, Px.newK_run, Px.par2F_run, Px.forS_run, Px.whileS_run, Px.turnK_nx, Px.turnK_ct, Px.turnK_bk, Px.turnK_rt, Px.turnK_rf, Px.for_nil, Px.lcA_nil, Option.bind_some, List.length_cons, List.length_nil, List.length_map, if_true, reduceCtorEq, List.replicate_succ, List.replicate_zero, Nat.reduceAdd, Nat.reduceSub, Nat.reduceLeDiff, hr]
  exact callM_ev (i := 0) (b0 := b) (ds := bs) rfl hxs rfl h
end Nt

set_option Elab.async false
set_option linter.all false
set_option autoImplicit false
set_option maxRecDepth 100000
set_option maxHeartbeats 4000000
/-! The law's own nets: a drawn one. -/
namespace Nt
open PySem PySem.Spec PyProof.Rows L2 Lw Px
abbrev pt2 : Xs := Xs.ifS (Xt.or (Xt.of (Xe.op oEq (Xe.var 1) (Xe.int 1))) (Xt.and (Xt.of (Xe.op oEq (Xe.var 1) (Xe.int 2))) (Xt.of (Xe.op oEq (Xe.callM f_Ldraw 0 (Xa.cons (Xe.int 3) Xa.nil)) (Xe.int 0))))) (Xs.asg (Xg.lst [7, 8]) (Xe.ofF (Xf.lc (itRng1 (Xe.int 2)) (Xg.name 9) Xt.yes (Xe.callM f_Lparts 0 (Xa.cons (Xe.var 2) (Xa.cons (Xe.int 3) Xa.nil))) [9] (own_xname (by simp))))) Xs.next
abbrev labX : Xe := Xe.op oIx (Xe.lst (Xa.cons (Xe.str "") (Xa.cons (Xe.str "x") (Xa.cons (Xe.str "y") (Xa.cons (Xe.op oAddS (Xe.str "t") (Xe.cb bStrI (Xa.cons (Xe.var 6) Xa.nil))) Xa.nil))))) (Xe.callM f_Ldraw 0 (Xa.cons (Xe.int 4) Xa.nil))
abbrev fireX : Xe := Xe.tup (Xa.cons (Xe.op oAddS (Xe.str "t") (Xe.cb bStrI (Xa.cons (Xe.var 6) Xa.nil))) (Xa.cons (Xe.var 10) (Xa.cons (Xe.var 7) (Xa.cons (Xe.var 8) Xa.nil))))
theorem pt2_is {n : Nat} {zs : List Str} {bs : List PyData} (h : PurseOk (n + 25) bs) (hl : zs.length ≤ 5) (sort : Int) (P : PyData) (F : List PyData) (k : PyData) {ps qs : List (Str × Int)} (hp : PartsOk zs ps) (hq : PartsOk zs qs) :
    ∃ (ps' qs' : List (Str × Int)) (bs' : List PyData), pt2.run [some (.lst true bs), some (.dat (.int sort)), some (.dat (strsD zs)), some (.dat P), none, some (.lst false F), some (.dat k), some (.dat (.tuple (ps.map partD))), some (.dat (.tuple (qs.map partD))), none, none] =
      some (.nx [some (.lst true bs'), some (.dat (.int sort)), some (.dat (strsD zs)), some (.dat P), none, some (.lst false F), some (.dat k), some (.dat (.tuple (ps'.map partD))), some (.dat (.tuple (qs'.map partD))), none, none]) ∧ PartsOk zs ps' ∧ PartsOk zs qs' ∧ PurseOk n bs' := by
  have drawn : ∀ bs1 : List PyData, PurseOk (n + 20) bs1 → ∃ (ps' qs' : List (Str × Int)) (bs' : List PyData), (Xs.asg (Xg.lst [7, 8]) (Xe.ofF (Xf.lc (itRng1 (Xe.int 2)) (Xg.name 9) Xt.yes (Xe.callM f_Lparts 0 (Xa.cons (Xe.var 2) (Xa.cons (Xe.int 3) Xa.nil))) [9] (own_xname (by simp))))).run [some (.lst true bs1), some (.dat (.int sort)), some (.dat (strsD zs)), some (.dat P), none, some (.lst false F), some (.dat k), some (.dat (.tuple (ps.map partD))), some (.dat (.tuple (qs.map partD))), none, none] =
      some (.nx [some (.lst true bs'), some (.dat (.int sort)), some (.dat (strsD zs)), some (.dat P), none, some (.lst false F), some (.dat k), some (.dat (.tuple (ps'.map partD))), some (.dat (.tuple (qs'.map partD))), none, none]) ∧ PartsOk zs ps' ∧ PartsOk zs qs' ∧ PurseOk n bs' := by
    intro bs1 h1
    obtain ⟨p1, bs2, e1, k1, h2⟩ := parts_is (n := n + 10) (zs := zs) (h1.less (by omega)) (by omega) 3
    obtain ⟨p2, bs3, e2, k2, h3⟩ := parts_is (n := n) (zs := zs) (h2.less (by omega)) (by omega) 3
    refine ⟨p1, p2, bs3, ?_, k1, k2, h3⟩
    have c : ((2 : Int) ≤ 100000 ∧ (-100000 : Int) ≤ 2) := by decide
    simp only [Px.gt_zero, Px.gt_succ, Px.st_zero, Px.st_succ, Px.wp_nil, Px.wp_cons, Px.fz_nil, Px.fz_lst, Px.fz_dat, Px.fz_dct, Px.fz_seq, Px.fz_none, Px.tl_nil, Px.tl_cons, Px.ent_no, Px.ent_own, Px.ent_seq, Px.argN_no, Px.argN_own, Px.argN_seq, Px.endO_rt, Px.endO_nx, Px.endO_rf, Px.endO_srt, Px.endO_srf, Px.endO_ort, Px.endO_onx, Px.int_ev, Px.str_ev, Px.bl_ev, Px.non_ev, Px.var_ev, Px.varE_zd, Px.varE_zl, Px.consV_some, Px.varE_s, Px.op_ev, Px.nil_ev, Px.cons_ev, Px.tup_ev, Px.lst_ev, Px.cb_ev, Px.asB_b, Px.andV_ev, Px.orV_ev, Px.notV_ev, Px.of_ev, Px.and_ev, Px.or_ev, Px.not_ev, Px.yes_ev, Px.ttmp_ev, Px.ifE_ev, Px.tmp_ev, Px.flat_int, Px.flat_str, Px.flat_bool, Px.flat_none, Px.asL_l, Px.asT_t, Px.asI_i, Px.asK_d, Px.ofF_ev, Px.flst_ev, Px.lc_ev, Px.asD_d, Px.asF_f, Px.call_ev, Px.fcall_ev, Px.isi_ev, Px.bits_ev, Px.dget_ev, Px.din_ev, Px.rev_ev, Px.orT_ev, Px.qnone_lo, Px.qsome_lo, Px.sl_ev, Px.slL_f, Px.slT_f, Px.lenSeq_ev, Px.neg_ev, Px.add_f, Px.sub_f, Px.and_f, Px.or_f, Px.lt_f, Px.le_f, Px.gt_f, Px.ge_f, Px.eq_f, Px.ne_f, Px.flatQ_i, Px.flatQ_s, Px.flatQ_b, Px.isN_f, Px.notN_f, Px.ix_list, Px.ix_tuple, Px.len_f, Px.lenT_f, Px.tup_f, Px.tupT_f, Px.lst_f, Px.lstT_f, Px.max_f, Px.min_f, Px.int_f, Px.itList_ev, Px.itTup_ev, Px.itEnumT_ev, Px.itRng1_ev, Px.itVals_ev, Px.name_ev, Px.gtup_ev, Px.glst_ev, Px.stN_nil, Px.stN_cons, Px.seqK_nx, Px.seqK_rt, Px.seqK_rf, Px.seqK_bk, Px.seqK_ct, Px.seq_run, Px.next_run, Px.set_run, Px.setF_run, Px.asg_run, Px.ret_run, Px.retF_run, Px.ifS_run, Px.drop_run, Px.newK_run, Px.par2F_run, Px.forS_run, Px.whileS_run, Px.turnK_nx, Px.turnK_ct, Px.turnK_bk, Px.turnK_rt, Px.turnK_rf, Px.for_nil, Px.lcA_nil, Option.bind_some, List.length_cons, List.length_nil, List.length_map, if_true, reduceCtorEq, List.replicate_succ, List.replicate_zero, Nat.reduceAdd, Nat.reduceSub, Nat.reduceLeDiff, if_pos c, show intsD 0 (2 : Int).toNat = [.int 0, .int 1] from rfl, lcA_cons]
    rw [parts_ev (i := 1) (by rfl) e1]
    simp only [Px.gt_zero, Px.gt_succ, Px.st_zero, Px.st_succ, Px.wp_nil, Px.wp_cons, Px.fz_nil, Px.fz_lst, Px.fz_dat, Px.fz_dct, Px.fz_seq, Px.fz_none, Px.tl_nil, Px.tl_cons, Px.ent_no, Px.ent_own, Px.ent_seq, Px.argN_no, Px.argN_own, Px.argN_seq, Px.endO_rt, Px.endO_nx, Px.endO_rf, Px.endO_srt, Px.endO_srf, Px.endO_ort, Px.endO_onx, Px.int_ev, Px.str_ev, Px.bl_ev, Px.non_ev, Px.var_ev, Px.varE_zd, Px.varE_zl, Px.consV_some, Px.varE_s, Px.op_ev, Px.nil_ev, Px.cons_ev, Px.tup_ev, Px.lst_ev, Px.cb_ev, Px.asB_b, Px.andV_ev, Px.orV_ev, Px.notV_ev, Px.of_ev, Px.and_ev, Px.or_ev, Px.not_ev, Px.yes_ev, Px.ttmp_ev, Px.ifE_ev, Px.tmp_ev, Px.flat_int, Px.flat_str, Px.flat_bool, Px.flat_none, Px.asL_l, Px.asT_t, Px.asI_i, Px.asK_d, Px.ofF_ev, Px.flst_ev, Px.lc_ev, Px.asD_d, Px.asF_f, Px.call_ev, Px.fcall_ev, Px.isi_ev, Px.bits_ev, Px.dget_ev, Px.din_ev, Px.rev_ev, Px.orT_ev, Px.qnone_lo, Px.qsome_lo, Px.sl_ev, Px.slL_f, Px.slT_f, Px.lenSeq_ev, Px.neg_ev, Px.add_f, Px.sub_f, Px.and_f, Px.or_f, Px.lt_f, Px.le_f, Px.gt_f, Px.ge_f, Px.eq_f, Px.ne_f, Px.flatQ_i, Px.flatQ_s, Px.flatQ_b, Px.isN_f, Px.notN_f, Px.ix_list, Px.ix_tuple, Px.len_f, Px.lenT_f, Px.tup_f, Px.tupT_f, Px.lst_f, Px.lstT_f, Px.max_f, Px.min_f, Px.int_f, Px.itList_ev, Px.itTup_ev, Px.itEnumT_ev, Px.itRng1_ev, Px.itVals_ev, Px.name_ev, Px.gtup_ev, Px.glst_ev, Px.stN_nil, Px.stN_cons, Px.seqK_nx, Px.seqK_rt, Px.seqK_rf, Px.seqK_bk, Px.seqK_ct, Px.seq_run, Px.next_run, Px.set_run, Px.setF_run, Px.asg_run, Px.ret_run, Px.retF_run, Px.ifS_run, Px.drop_run, Px.newK_run, Px.par2F_run, Px.forS_run, Px.whileS_run, Px.turnK_nx, Px.turnK_ct, Px.turnK_bk, Px.turnK_rt, Px.turnK_rf, Px.for_nil, Px.lcA_nil, Option.bind_some, List.length_cons, List.length_nil, List.length_map, if_true, reduceCtorEq, List.replicate_succ, List.replicate_zero, Nat.reduceAdd, Nat.reduceSub, Nat.reduceLeDiff]
    rw [parts_ev (i := 1) (by rfl) e2]
    simp only [Px.gt_zero, Px.gt_succ, Px.st_zero, Px.st_succ, Px.wp_nil, Px.wp_cons, Px.fz_nil, Px.fz_lst, Px.fz_dat, Px.fz_dct, Px.fz_seq, Px.fz_none, Px.tl_nil, Px.tl_cons, Px.ent_no, Px.ent_own, Px.ent_seq, Px.argN_no, Px.argN_own, Px.argN_seq, Px.endO_rt, Px.endO_nx, Px.endO_rf, Px.endO_srt, Px.endO_srf, Px.endO_ort, Px.endO_onx, Px.int_ev, Px.str_ev, Px.bl_ev, Px.non_ev, Px.var_ev, Px.varE_zd, Px.varE_zl, Px.consV_some, Px.varE_s, Px.op_ev, Px.nil_ev, Px.cons_ev, Px.tup_ev, Px.lst_ev, Px.cb_ev, Px.asB_b, Px.andV_ev, Px.orV_ev, Px.notV_ev, Px.of_ev, Px.and_ev, Px.or_ev, Px.not_ev, Px.yes_ev, Px.ttmp_ev, Px.ifE_ev, Px.tmp_ev, Px.flat_int, Px.flat_str, Px.flat_bool, Px.flat_none, Px.asL_l, Px.asT_t, Px.asI_i, Px.asK_d, Px.ofF_ev, Px.flst_ev, Px.lc_ev, Px.asD_d, Px.asF_f, Px.call_ev, Px.fcall_ev, Px.isi_ev, Px.bits_ev, Px.dget_ev, Px.din_ev, Px.rev_ev, Px.orT_ev, Px.qnone_lo, Px.qsome_lo, Px.sl_ev, Px.slL_f, Px.slT_f, Px.lenSeq_ev, Px.neg_ev, Px.add_f, Px.sub_f, Px.and_f, Px.or_f, Px.lt_f, Px.le_f, Px.gt_f, Px.ge_f, Px.eq_f, Px.ne_f, Px.flatQ_i, Px.flatQ_s, Px.flatQ_b, Px.isN_f, Px.notN_f, Px.ix_list, Px.ix_tuple, Px.len_f, Px.lenT_f, Px.tup_f, Px.tupT_f, Px.lst_f, Px.lstT_f, Px.max_f, Px.min_f, Px.int_f, Px.itList_ev, Px.itTup_ev, Px.itEnumT_ev, Px.itRng1_ev, Px.itVals_ev, Px.name_ev, Px.gtup_ev, Px.glst_ev, Px.stN_nil, Px.stN_cons, Px.seqK_nx, Px.seqK_rt, Px.seqK_rf, Px.seqK_bk, Px.seqK_ct, Px.seq_run, Px.next_run, Px.set_run, Px.setF_run, Px.asg_run, Px.ret_run, Px.retF_run, Px.ifS_run, Px.drop_run, Px.newK_run, Px.par2F_run, Px.forS_run, Px.whileS_run, Px.turnK_nx, Px.turnK_ct, Px.turnK_bk, Px.turnK_rt, Px.turnK_rf, Px.for_nil, Px.lcA_nil, Option.bind_some, List.length_cons, List.length_nil, List.length_map, if_true, reduceCtorEq, List.replicate_succ, List.replicate_zero, Nat.reduceAdd, Nat.reduceSub, Nat.reduceLeDiff]
  by_cases c1 : sort = 1
  · obtain ⟨p1, p2, b2, g1, g2⟩ := drawn bs (h.less (by omega))
    refine ⟨p1, p2, b2, ?_, g2⟩
    unfold pt2
    rw [ifS_run]
    simp only [or_ev, of_ev, op_ev, var_ev, varE_s, varE_zd, consV_some, Option.bind_some, int_ev, eq_f, flatQ_i, asB_b, decide_eq_true c1, if_true]
    exact g1
  · by_cases c2 : sort = 2
    · obtain ⟨d, bs1, e, d0, d1, h1⟩ := draw_is (n := n + 20) (h.less (by omega)) (m := 3) (by decide) (by decide)
      by_cases c3 : d = 0
      · obtain ⟨p1, p2, b2, g1, g2⟩ := drawn bs1 h1
        refine ⟨p1, p2, b2, ?_, g2⟩
        unfold pt2
        rw [ifS_run]
        simp only [or_ev, and_ev, of_ev, op_ev, var_ev, varE_s, varE_zd, consV_some, Option.bind_some, int_ev, eq_f, flatQ_i, asB_b, decide_eq_false c1, decide_eq_true c2, if_true, Bool.false_eq_true, if_false, draw_int e, decide_eq_true c3]
        exact g1
      · refine ⟨ps, qs, bs1, ?_, hp, hq, h1.less (by omega)⟩
        unfold pt2
        rw [ifS_run]
        simp only [or_ev, and_ev, of_ev, op_ev, var_ev, varE_s, varE_zd, consV_some, Option.bind_some, int_ev, eq_f, flatQ_i, asB_b, decide_eq_false c1, decide_eq_true c2, if_true, Bool.false_eq_true, if_false, draw_int e, decide_eq_false c3]
        rfl
    · refine ⟨ps, qs, bs, ?_, hp, hq, h.less (by omega)⟩
      unfold pt2
      rw [ifS_run]
      simp only [or_ev, and_ev, of_ev, op_ev, var_ev, varE_s, varE_zd, consV_some, Option.bind_some, int_ev, eq_f, flatQ_i, asB_b, decide_eq_false c1, decide_eq_false c2, Bool.false_eq_true, if_false]
      rfl
theorem lab_is {n : Nat} {bs : List PyData} (h : PurseOk (n + 1) bs) {k : Nat} (hk : k < 6) : ∃ (l : Str) (bs' : List PyData), (l = "" ∨ NmOk l) ∧ PurseOk n bs' ∧ ∀ (v1 v2 v3 v4 v7 v8 : Option AV) (F : List PyData), labX.ev [some (.lst true bs), v1, v2, v3, v4, some (.lst false F), some (.dat (.int k)), v7, v8, none, none] =
    some (.str l, [some (.lst true bs'), v1, v2, v3, v4, some (.lst false F), some (.dat (.int k)), v7, v8, none, none]) := by
  obtain ⟨d, bs1, e, d0, d1, h1⟩ := draw_is h (m := 4) (by decide) (by decide)
  have : d = 0 ∨ d = 1 ∨ d = 2 ∨ d = 3 := by omega
  have go : ∀ (l : Str), atI [PyData.str "", .str "x", .str "y", .str (tn k)] d = some (.str l) → ∀ (v1 v2 v3 v4 v7 v8 : Option AV) (F : List PyData), labX.ev [some (.lst true bs), v1, v2, v3, v4, some (.lst false F), some (.dat (.int k)), v7, v8, none, none] =
    some (.str l, [some (.lst true bs1), v1, v2, v3, v4, some (.lst false F), some (.dat (.int k)), v7, v8, none, none]) := by
    intro l hl v1 v2 v3 v4 v7 v8 F
    unfold labX
    simp only [Px.gt_zero, Px.gt_succ, Px.st_zero, Px.st_succ, Px.wp_nil, Px.wp_cons, Px.fz_nil, Px.fz_lst, Px.fz_dat, Px.fz_dct, Px.fz_seq, Px.fz_none, Px.tl_nil, Px.tl_cons, Px.ent_no, Px.ent_own, Px.ent_seq, Px.argN_no, Px.argN_own, Px.argN_seq, Px.endO_rt, Px.endO_nx, Px.endO_rf, Px.endO_srt, Px.endO_srf, Px.endO_ort, Px.endO_onx, Px.int_ev, Px.str_ev, Px.bl_ev, Px.non_ev, Px.var_ev, Px.varE_zd, Px.varE_zl, Px.consV_some, Px.varE_s, Px.op_ev, Px.nil_ev, Px.cons_ev, Px.tup_ev, Px.lst_ev, Px.cb_ev, Px.asB_b, Px.andV_ev, Px.orV_ev, Px.notV_ev, Px.of_ev, Px.and_ev, Px.or_ev, Px.not_ev, Px.yes_ev, Px.ttmp_ev, Px.ifE_ev, Px.tmp_ev, Px.flat_int, Px.flat_str, Px.flat_bool, Px.flat_none, Px.asL_l, Px.asT_t, Px.asI_i, Px.asK_d, Px.ofF_ev, Px.flst_ev, Px.lc_ev, Px.asD_d, Px.asF_f, Px.call_ev, Px.fcall_ev, Px.isi_ev, Px.bits_ev, Px.dget_ev, Px.din_ev, Px.rev_ev, Px.orT_ev, Px.qnone_lo, Px.qsome_lo, Px.sl_ev, Px.slL_f, Px.slT_f, Px.lenSeq_ev, Px.neg_ev, Px.add_f, Px.sub_f, Px.and_f, Px.or_f, Px.lt_f, Px.le_f, Px.gt_f, Px.ge_f, Px.eq_f, Px.ne_f, Px.flatQ_i, Px.flatQ_s, Px.flatQ_b, Px.isN_f, Px.notN_f, Px.ix_list, Px.ix_tuple, Px.len_f, Px.lenT_f, Px.tup_f, Px.tupT_f, Px.lst_f, Px.lstT_f, Px.max_f, Px.min_f, Px.int_f, Px.itList_ev, Px.itTup_ev, Px.itEnumT_ev, Px.itRng1_ev, Px.itVals_ev, Px.name_ev, Px.gtup_ev, Px.glst_ev, Px.stN_nil, Px.stN_cons, Px.seqK_nx, Px.seqK_rt, Px.seqK_rf, Px.seqK_bk, Px.seqK_ct, Px.seq_run, Px.next_run, Px.set_run, Px.setF_run, Px.asg_run, Px.ret_run, Px.retF_run, Px.ifS_run, Px.drop_run, Px.newK_run, Px.par2F_run, Px.forS_run, Px.whileS_run, Px.turnK_nx, Px.turnK_ct, Px.turnK_bk, Px.turnK_rt, Px.turnK_rf, Px.for_nil, Px.lcA_nil, Option.bind_some, List.length_cons, List.length_nil, List.length_map, if_true, reduceCtorEq, List.replicate_succ, List.replicate_zero, Nat.reduceAdd, Nat.reduceSub, Nat.reduceLeDiff, dg_f hk, tn_f hk, draw_int e, Px.ix_list, hl]
  rcases this with rfl | rfl | rfl | rfl
  · exact ⟨"", bs1, .inl rfl, h1, go _ rfl⟩
  · exact ⟨"x", bs1, .inr (by unfold NmOk; decide +kernel), h1, go _ rfl⟩
  · exact ⟨"y", bs1, .inr (by unfold NmOk; decide +kernel), h1, go _ rfl⟩
  · exact ⟨tn k, bs1, .inr (tn_ok hk), h1, go _ rfl⟩
theorem intsD_s (lo : Int) (n : Nat) : intsD lo (n + 1) = .int lo :: intsD (lo + 1) n := by
  unfold intsD
  rw [List.range_succ_eq_map, List.map_cons, List.map_map]
  congr 1
  · simp
  · exact List.map_congr_left fun k _ => by
      show PyData.int (lo + ((k + 1 : Nat) : Int)) = .int (lo + 1 + (k : Int))
      congr 1
      omega
theorem net_loop {n : Nat} {zs : List Str} (hn : zs ≠ []) (hl : zs.length ≤ 5) (sort : Int) (P : PyData) : ∀ (m k : Nat) (fs : List Fire) (bs : List PyData), k + m ≤ 6 → Fires zs k fs → PurseOk (n + 30 * m) bs →
    ∃ (fs' : List Fire) (bs' : List PyData), forA (Xg.name 6) (Xs.seq (Xs.asg (Xg.lst [7, 8]) (Xe.callM f_Leven 0 (Xa.cons (Xe.var 2) Xa.nil))) (Xs.seq pt2 (Xs.seq (Xs.set 10 labX) (Xs.app 5 fireX)))) [6, 7, 8, 10] (intsD k m)
      [some (.lst true bs), some (.dat (.int sort)), some (.dat (strsD zs)), some (.dat P), none, some (.lst false (fs.map fireD)), none, none, none, none, none] =
      some (.nx [some (.lst true bs'), some (.dat (.int sort)), some (.dat (strsD zs)), some (.dat P), none, some (.lst false (fs'.map fireD)), none, none, none, none, none]) ∧ Fires zs (k + m) fs' ∧ PurseOk n bs'
  | 0, k, fs, bs, _, hf, h => ⟨fs, bs, rfl, hf, h⟩
  | m + 1, k, fs, bs, hk, hf, h => by
    have hk6 : k < 6 := by omega
    obtain ⟨p0, q0, bs1, e1, a1, a2, h1⟩ := even_is (n := n + 30 * m + 26) (zs := zs) (h.less (by omega)) hn (by omega)
    obtain ⟨p1, q1, bs2, e2, b1, b2, h2⟩ := pt2_is (n := n + 30 * m + 1) (h1.less (by omega)) hl sort P (fs.map fireD) (.int k) a1 a2
    obtain ⟨l, bs3, hlab, h3, e3⟩ := lab_is (n := n + 30 * m) h2 hk6
    obtain ⟨fs', bs', g1, g2, g3⟩ := net_loop hn hl sort P m (k + 1) (fs ++ [(tn k, l, p1, q1)]) bs3 (by omega) (hf.snoc hlab b1 b2) h3
    refine ⟨fs', bs', ?_, by rw [show k + (m + 1) = k + 1 + m by omega]; exact g2, g3⟩
    rw [show intsD (k : Int) (m + 1) = .int (k : Int) :: intsD ((k + 1 : Nat) : Int) m from ?_, for_cons]
    · simp only [name_ev, st_succ, st_zero, Option.bind_some, Nat.reduceAdd]
      rw [seq_run, asg_run, even_ev (i := 1) (by rfl) e1]
      simp only [Option.bind_some, glst_ev, stN_cons, stN_nil, st_succ, st_zero, seqK_nx, Nat.reduceAdd]
      rw [seq_run, e2]
      simp only [Option.bind_some, seqK_nx]
      rw [seq_run, set_run, e3]
      simp only [Option.bind_some, seqK_nx, st_succ, st_zero, Nat.reduceAdd]
      have ex : fireX.ev [some (.lst true bs3), some (.dat (.int sort)), some (.dat (strsD zs)), some (.dat P), none, some (.lst false (fs.map fireD)), some (.dat (.int k)), some (.dat (.tuple (p1.map partD))), some (.dat (.tuple (q1.map partD))), none, some (.dat (.str l))] =
          some (fireD (tn k, l, p1, q1), [some (.lst true bs3), some (.dat (.int sort)), some (.dat (strsD zs)), some (.dat P), none, some (.lst false (fs.map fireD)), some (.dat (.int k)), some (.dat (.tuple (p1.map partD))), some (.dat (.tuple (q1.map partD))), none, some (.dat (.str l))]) := by
        unfold fireX
        simp only [Px.gt_zero, Px.gt_succ, Px.st_zero, Px.st_succ, Px.wp_nil, Px.wp_cons, Px.fz_nil, Px.fz_lst, Px.fz_dat, Px.fz_dct, Px.fz_seq, Px.fz_none, Px.tl_nil, Px.tl_cons, Px.ent_no, Px.ent_own, Px.ent_seq, Px.argN_no, Px.argN_own, Px.argN_seq, Px.endO_rt, Px.endO_nx, Px.endO_rf, Px.endO_srt, Px.endO_srf, Px.endO_ort, Px.endO_onx, Px.int_ev, Px.str_ev, Px.bl_ev, Px.non_ev, Px.var_ev, Px.varE_zd, Px.varE_zl, Px.consV_some, Px.varE_s, Px.op_ev, Px.nil_ev, Px.cons_ev, Px.tup_ev, Px.lst_ev, Px.cb_ev, Px.asB_b, Px.andV_ev, Px.orV_ev, Px.notV_ev, Px.of_ev, Px.and_ev, Px.or_ev, Px.not_ev, Px.yes_ev, Px.ttmp_ev, Px.ifE_ev, Px.tmp_ev, Px.flat_int, Px.flat_str, Px.flat_bool, Px.flat_none, Px.asL_l, Px.asT_t, Px.asI_i, Px.asK_d, Px.ofF_ev, Px.flst_ev, Px.lc_ev, Px.asD_d, Px.asF_f, Px.call_ev, Px.fcall_ev, Px.isi_ev, Px.bits_ev, Px.dget_ev, Px.din_ev, Px.rev_ev, Px.orT_ev, Px.qnone_lo, Px.qsome_lo, Px.sl_ev, Px.slL_f, Px.slT_f, Px.lenSeq_ev, Px.neg_ev, Px.add_f, Px.sub_f, Px.and_f, Px.or_f, Px.lt_f, Px.le_f, Px.gt_f, Px.ge_f, Px.eq_f, Px.ne_f, Px.flatQ_i, Px.flatQ_s, Px.flatQ_b, Px.isN_f, Px.notN_f, Px.ix_list, Px.ix_tuple, Px.len_f, Px.lenT_f, Px.tup_f, Px.tupT_f, Px.lst_f, Px.lstT_f, Px.max_f, Px.min_f, Px.int_f, Px.itList_ev, Px.itTup_ev, Px.itEnumT_ev, Px.itRng1_ev, Px.itVals_ev, Px.name_ev, Px.gtup_ev, Px.glst_ev, Px.stN_nil, Px.stN_cons, Px.seqK_nx, Px.seqK_rt, Px.seqK_rf, Px.seqK_bk, Px.seqK_ct, Px.seq_run, Px.next_run, Px.set_run, Px.setF_run, Px.asg_run, Px.ret_run, Px.retF_run, Px.ifS_run, Px.drop_run, Px.newK_run, Px.par2F_run, Px.forS_run, Px.whileS_run, Px.turnK_nx, Px.turnK_ct, Px.turnK_bk, Px.turnK_rt, Px.turnK_rf, Px.for_nil, Px.lcA_nil, Option.bind_some, List.length_cons, List.length_nil, List.length_map, if_true, reduceCtorEq, List.replicate_succ, List.replicate_zero, Nat.reduceAdd, Nat.reduceSub, Nat.reduceLeDiff, dg_f hk6, tn_f hk6]
        rfl
      rw [app_run (i := 5) (by rfl) ex (by rfl) (by rw [List.length_map, hf.len]; omega)]
      simp only [Px.gt_zero, Px.gt_succ, Px.st_zero, Px.st_succ, Px.wp_nil, Px.wp_cons, Px.fz_nil, Px.fz_lst, Px.fz_dat, Px.fz_dct, Px.fz_seq, Px.fz_none, Px.tl_nil, Px.tl_cons, Px.ent_no, Px.ent_own, Px.ent_seq, Px.argN_no, Px.argN_own, Px.argN_seq, Px.endO_rt, Px.endO_nx, Px.endO_rf, Px.endO_srt, Px.endO_srf, Px.endO_ort, Px.endO_onx, Px.int_ev, Px.str_ev, Px.bl_ev, Px.non_ev, Px.var_ev, Px.varE_zd, Px.varE_zl, Px.consV_some, Px.varE_s, Px.op_ev, Px.nil_ev, Px.cons_ev, Px.tup_ev, Px.lst_ev, Px.cb_ev, Px.asB_b, Px.andV_ev, Px.orV_ev, Px.notV_ev, Px.of_ev, Px.and_ev, Px.or_ev, Px.not_ev, Px.yes_ev, Px.ttmp_ev, Px.ifE_ev, Px.tmp_ev, Px.flat_int, Px.flat_str, Px.flat_bool, Px.flat_none, Px.asL_l, Px.asT_t, Px.asI_i, Px.asK_d, Px.ofF_ev, Px.flst_ev, Px.lc_ev, Px.asD_d, Px.asF_f, Px.call_ev, Px.fcall_ev, Px.isi_ev, Px.bits_ev, Px.dget_ev, Px.din_ev, Px.rev_ev, Px.orT_ev, Px.qnone_lo, Px.qsome_lo, Px.sl_ev, Px.slL_f, Px.slT_f, Px.lenSeq_ev, Px.neg_ev, Px.add_f, Px.sub_f, Px.and_f, Px.or_f, Px.lt_f, Px.le_f, Px.gt_f, Px.ge_f, Px.eq_f, Px.ne_f, Px.flatQ_i, Px.flatQ_s, Px.flatQ_b, Px.isN_f, Px.notN_f, Px.ix_list, Px.ix_tuple, Px.len_f, Px.lenT_f, Px.tup_f, Px.tupT_f, Px.lst_f, Px.lstT_f, Px.max_f, Px.min_f, Px.int_f, Px.itList_ev, Px.itTup_ev, Px.itEnumT_ev, Px.itRng1_ev, Px.itVals_ev, Px.name_ev, Px.gtup_ev, Px.glst_ev, Px.stN_nil, Px.stN_cons, Px.seqK_nx, Px.seqK_rt, Px.seqK_rf, Px.seqK_bk, Px.seqK_ct, Px.seq_run, Px.next_run, Px.set_run, Px.setF_run, Px.asg_run, Px.ret_run, Px.retF_run, Px.ifS_run, Px.drop_run, Px.newK_run, Px.par2F_run, Px.forS_run, Px.whileS_run, Px.turnK_nx, Px.turnK_ct, Px.turnK_bk, Px.turnK_rt, Px.turnK_rf, Px.for_nil, Px.lcA_nil, Option.bind_some, List.length_cons, List.length_nil, List.length_map, if_true, reduceCtorEq, List.replicate_succ, List.replicate_zero, Nat.reduceAdd, Nat.reduceSub, Nat.reduceLeDiff]
      rw [List.map_append] at g1
      exact g1
    · rw [intsD_s]
      rfl
theorem net_is {n : Nat} {bs : List PyData} (h : PurseOk (n + 200) bs) (sort : Int) : ∃ (qs : List (Str × Int)) (fs : List Fire) (bs' : List PyData), f_Lnet (.own bs) [.int sort] = some (.dat (netD qs fs), bs') ∧ NetG qs fs ∧ qs.length ≤ 5 ∧ PurseOk n bs' := by
  obtain ⟨d, bs1, e1, d0, d1, h1⟩ := draw_is (n := n + 199) h (m := 5) (by decide) (by decide)
  obtain ⟨zs, hc, hs, hlen⟩ := cut5 (d := 1 + d) (by omega) (by omega)
  have hl : zs.length ≤ 5 := by omega
  have hn : zs ≠ [] := fun e => by rw [e] at hlen; simp at hlen; omega
  obtain ⟨qs, bs2, g1, g2, g3, h2⟩ := places_lc (i := 3) (m := 8) (k := 3) (by decide) (by decide) (b := true) (r := [some (.dat (.int sort)), some (.dat (strsD zs)), none, none, none, none, none, none, none, none]) (fun _ => rfl) (fun _ => rfl) (n := n + 194) zs bs1 (h1.less (by omega))
  obtain ⟨m, bs3, e3, m0, m1, h3⟩ := draw_is (n := n + 193) h2 (m := 6) (by decide) (by decide)
  obtain ⟨fs, bs4, k1, k2, h4⟩ := net_loop (n := n) hn hl sort (.tuple (qs.map partD)) (1 + m).toNat 0 [] bs3 (by omega) Fires.nil (h3.less (by omega))
  obtain ⟨r1, r2⟩ := net_of k2 (by omega) g2 hs hn g3
  refine ⟨qs, fs, bs4, ?_, r1, r2, h4⟩
  unfold f_Lnet
  rw [fnOf_eq (by rfl)]
  unfold b_Lnet
  have ea : asL (strsD zs) = some (zs.map .str) := rfl
  simp only [Px.gt_zero, Px.gt_succ, Px.st_zero, Px.st_succ, Px.wp_nil, Px.wp_cons, Px.fz_nil, Px.fz_lst, Px.fz_dat, Px.fz_dct, Px.fz_seq, Px.fz_none, Px.tl_nil, Px.tl_cons, Px.ent_no, Px.ent_own, Px.ent_seq, Px.argN_no, Px.argN_own, Px.argN_seq, Px.endO_rt, Px.endO_nx, Px.endO_rf, Px.endO_srt, Px.endO_srf, Px.endO_ort, Px.endO_onx, Px.int_ev, Px.str_ev, Px.bl_ev, Px.non_ev, Px.var_ev, Px.varE_zd, Px.varE_zl, Px.consV_some, Px.varE_s, Px.op_ev, Px.nil_ev, Px.cons_ev, Px.tup_ev, Px.lst_ev, Px.cb_ev, Px.asB_b, Px.andV_ev, Px.orV_ev, Px.notV_ev, Px.of_ev, Px.and_ev, Px.or_ev, Px.not_ev, Px.yes_ev, Px.ttmp_ev, Px.ifE_ev, Px.tmp_ev, Px.flat_int, Px.flat_str, Px.flat_bool, Px.flat_none, Px.asL_l, Px.asT_t, Px.asI_i, Px.asK_d, Px.ofF_ev, Px.flst_ev, Px.lc_ev, Px.asD_d, Px.asF_f, Px.call_ev, Px.fcall_ev, Px.isi_ev, Px.bits_ev, Px.dget_ev, Px.din_ev, Px.rev_ev, Px.orT_ev, Px.qnone_lo, Px.qsome_lo, Px.sl_ev, Px.slL_f, Px.slT_f, Px.lenSeq_ev, Px.neg_ev, Px.add_f, Px.sub_f, Px.and_f, Px.or_f, Px.lt_f, Px.le_f, Px.gt_f, Px.ge_f, Px.eq_f, Px.ne_f, Px.flatQ_i, Px.flatQ_s, Px.flatQ_b, Px.isN_f, Px.notN_f, Px.ix_list, Px.ix_tuple, Px.len_f, Px.lenT_f, Px.tup_f, Px.tupT_f, Px.lst_f, Px.lstT_f, Px.max_f, Px.min_f, Px.int_f, Px.itList_ev, Px.itTup_ev, Px.itEnumT_ev, Px.itRng1_ev, Px.itVals_ev, Px.name_ev, Px.gtup_ev, Px.glst_ev, Px.stN_nil, Px.stN_cons, Px.seqK_nx, Px.seqK_rt, Px.seqK_rf, Px.seqK_bk, Px.seqK_ct, Px.seq_run, Px.next_run, Px.set_run, Px.setF_run, Px.asg_run, Px.ret_run, Px.retF_run, Px.ifS_run, Px.drop_run, Px.newK_run, Px.par2F_run, Px.forS_run, Px.whileS_run, Px.turnK_nx, Px.turnK_ct, Px.turnK_bk, Px.turnK_rt, Px.turnK_rf, Px.for_nil, Px.lcA_nil, Option.bind_some, List.length_cons, List.length_nil, List.length_map, if_true, reduceCtorEq, List.replicate_succ, List.replicate_zero, Nat.reduceAdd, Nat.reduceSub, Nat.reduceLeDiff, draw_int e1, hc]
  simp only [Nat.reduceAdd] at g1
  rw [if_pos (show zs.length ≤ 50000 by omega), show PyData.list (zs.map .str) = strsD zs from rfl, g1]
  simp only [Px.gt_zero, Px.gt_succ, Px.st_zero, Px.st_succ, Px.wp_nil, Px.wp_cons, Px.fz_nil, Px.fz_lst, Px.fz_dat, Px.fz_dct, Px.fz_seq, Px.fz_none, Px.tl_nil, Px.tl_cons, Px.ent_no, Px.ent_own, Px.ent_seq, Px.argN_no, Px.argN_own, Px.argN_seq, Px.endO_rt, Px.endO_nx, Px.endO_rf, Px.endO_srt, Px.endO_srf, Px.endO_ort, Px.endO_onx, Px.int_ev, Px.str_ev, Px.bl_ev, Px.non_ev, Px.var_ev, Px.varE_zd, Px.varE_zl, Px.consV_some, Px.varE_s, Px.op_ev, Px.nil_ev, Px.cons_ev, Px.tup_ev, Px.lst_ev, Px.cb_ev, Px.asB_b, Px.andV_ev, Px.orV_ev, Px.notV_ev, Px.of_ev, Px.and_ev, Px.or_ev, Px.not_ev, Px.yes_ev, Px.ttmp_ev, Px.ifE_ev, Px.tmp_ev, Px.flat_int, Px.flat_str, Px.flat_bool, Px.flat_none, Px.asL_l, Px.asT_t, Px.asI_i, Px.asK_d, Px.ofF_ev, Px.flst_ev, Px.lc_ev, Px.asD_d, Px.asF_f, Px.call_ev, Px.fcall_ev, Px.isi_ev, Px.bits_ev, Px.dget_ev, Px.din_ev, Px.rev_ev, Px.orT_ev, Px.qnone_lo, Px.qsome_lo, Px.sl_ev, Px.slL_f, Px.slT_f, Px.lenSeq_ev, Px.neg_ev, Px.add_f, Px.sub_f, Px.and_f, Px.or_f, Px.lt_f, Px.le_f, Px.gt_f, Px.ge_f, Px.eq_f, Px.ne_f, Px.flatQ_i, Px.flatQ_s, Px.flatQ_b, Px.isN_f, Px.notN_f, Px.ix_list, Px.ix_tuple, Px.len_f, Px.lenT_f, Px.tup_f, Px.tupT_f, Px.lst_f, Px.lstT_f, Px.max_f, Px.min_f, Px.int_f, Px.itList_ev, Px.itTup_ev, Px.itEnumT_ev, Px.itRng1_ev, Px.itVals_ev, Px.name_ev, Px.gtup_ev, Px.glst_ev, Px.stN_nil, Px.stN_cons, Px.seqK_nx, Px.seqK_rt, Px.seqK_rf, Px.seqK_bk, Px.seqK_ct, Px.seq_run, Px.next_run, Px.set_run, Px.setF_run, Px.asg_run, Px.ret_run, Px.retF_run, Px.ifS_run, Px.drop_run, Px.newK_run, Px.par2F_run, Px.forS_run, Px.whileS_run, Px.turnK_nx, Px.turnK_ct, Px.turnK_bk, Px.turnK_rt, Px.turnK_rf, Px.for_nil, Px.lcA_nil, Option.bind_some, List.length_cons, List.length_nil, List.length_map, if_true, reduceCtorEq, List.replicate_succ, List.replicate_zero, Nat.reduceAdd, Nat.reduceSub, Nat.reduceLeDiff, draw_int e3]
  rw [if_pos (by omega)]
  simp only [Px.gt_zero, Px.gt_succ, Px.st_zero, Px.st_succ, Px.wp_nil, Px.wp_cons, Px.fz_nil, Px.fz_lst, Px.fz_dat, Px.fz_dct, Px.fz_seq, Px.fz_none, Px.tl_nil, Px.tl_cons, Px.ent_no, Px.ent_own, Px.ent_seq, Px.argN_no, Px.argN_own, Px.argN_seq, Px.endO_rt, Px.endO_nx, Px.endO_rf, Px.endO_srt, Px.endO_srf, Px.endO_ort, Px.endO_onx, Px.int_ev, Px.str_ev, Px.bl_ev, Px.non_ev, Px.var_ev, Px.varE_zd, Px.varE_zl, Px.consV_some, Px.varE_s, Px.op_ev, Px.nil_ev, Px.cons_ev, Px.tup_ev, Px.lst_ev, Px.cb_ev, Px.asB_b, Px.andV_ev, Px.orV_ev, Px.notV_ev, Px.of_ev, Px.and_ev, Px.or_ev, Px.not_ev, Px.yes_ev, Px.ttmp_ev, Px.ifE_ev, Px.tmp_ev, Px.flat_int, Px.flat_str, Px.flat_bool, Px.flat_none, Px.asL_l, Px.asT_t, Px.asI_i, Px.asK_d, Px.ofF_ev, Px.flst_ev, Px.lc_ev, Px.asD_d, Px.asF_f, Px.call_ev, Px.fcall_ev, Px.isi_ev, Px.bits_ev, Px.dget_ev, Px.din_ev, Px.rev_ev, Px.orT_ev, Px.qnone_lo, Px.qsome_lo, Px.sl_ev, Px.slL_f, Px.slT_f, Px.lenSeq_ev, Px.neg_ev, Px.add_f, Px.sub_f, Px.and_f, Px.or_f, Px.lt_f, Px.le_f, Px.gt_f, Px.ge_f, Px.eq_f, Px.ne_f, Px.flatQ_i, Px.flatQ_s, Px.flatQ_b, Px.isN_f, Px.notN_f, Px.ix_list, Px.ix_tuple, Px.len_f, Px.lenT_f, Px.tup_f, Px.tupT_f, Px.lst_f, Px.lstT_f, Px.max_f, Px.min_f, Px.int_f, Px.itList_ev, Px.itTup_ev, Px.itEnumT_ev, Px.itRng1_ev, Px.itVals_ev, Px.name_ev, Px.gtup_ev, Px.glst_ev, Px.stN_nil, Px.stN_cons, Px.seqK_nx, Px.seqK_rt, Px.seqK_rf, Px.seqK_bk, Px.seqK_ct, Px.seq_run, Px.next_run, Px.set_run, Px.setF_run, Px.asg_run, Px.ret_run, Px.retF_run, Px.ifS_run, Px.drop_run, Px.newK_run, Px.par2F_run, Px.forS_run, Px.whileS_run, Px.turnK_nx, Px.turnK_ct, Px.turnK_bk, Px.turnK_rt, Px.turnK_rf, Px.for_nil, Px.lcA_nil, Option.bind_some, List.length_cons, List.length_nil, List.length_map, if_true, reduceCtorEq, List.replicate_succ, List.replicate_zero, Nat.reduceAdd, Nat.reduceSub, Nat.reduceLeDiff]
  rw [show ([] : List PyData) = ([] : List Fire).map fireD from rfl]
  have k1' := k1
  rw [show ((0 : Nat) : Int) = 0 from rfl] at k1'
  rw [k1']
  simp only [Px.gt_zero, Px.gt_succ, Px.st_zero, Px.st_succ, Px.wp_nil, Px.wp_cons, Px.fz_nil, Px.fz_lst, Px.fz_dat, Px.fz_dct, Px.fz_seq, Px.fz_none, Px.tl_nil, Px.tl_cons, Px.ent_no, Px.ent_own, Px.ent_seq, Px.argN_no, Px.argN_own, Px.argN_seq, Px.endO_rt, Px.endO_nx, Px.endO_rf, Px.endO_srt, Px.endO_srf, Px.endO_ort, Px.endO_onx, Px.int_ev, Px.str_ev, Px.bl_ev, Px.non_ev, Px.var_ev, Px.varE_zd, Px.varE_zl, Px.consV_some, Px.varE_s, Px.op_ev, Px.nil_ev, Px.cons_ev, Px.tup_ev, Px.lst_ev, Px.cb_ev, Px.asB_b, Px.andV_ev, Px.orV_ev, Px.notV_ev, Px.of_ev, Px.and_ev, Px.or_ev, Px.not_ev, Px.yes_ev, Px.ttmp_ev, Px.ifE_ev, Px.tmp_ev, Px.flat_int, Px.flat_str, Px.flat_bool, Px.flat_none, Px.asL_l, Px.asT_t, Px.asI_i, Px.asK_d, Px.ofF_ev, Px.flst_ev, Px.lc_ev, Px.asD_d, Px.asF_f, Px.call_ev, Px.fcall_ev, Px.isi_ev, Px.bits_ev, Px.dget_ev, Px.din_ev, Px.rev_ev, Px.orT_ev, Px.qnone_lo, Px.qsome_lo, Px.sl_ev, Px.slL_f, Px.slT_f, Px.lenSeq_ev, Px.neg_ev, Px.add_f, Px.sub_f, Px.and_f, Px.or_f, Px.lt_f, Px.le_f, Px.gt_f, Px.ge_f, Px.eq_f, Px.ne_f, Px.flatQ_i, Px.flatQ_s, Px.flatQ_b, Px.isN_f, Px.notN_f, Px.ix_list, Px.ix_tuple, Px.len_f, Px.lenT_f, Px.tup_f, Px.tupT_f, Px.lst_f, Px.lstT_f, Px.max_f, Px.min_f, Px.int_f, Px.itList_ev, Px.itTup_ev, Px.itEnumT_ev, Px.itRng1_ev, Px.itVals_ev, Px.name_ev, Px.gtup_ev, Px.glst_ev, Px.stN_nil, Px.stN_cons, Px.seqK_nx, Px.seqK_rt, Px.seqK_rf, Px.seqK_bk, Px.seqK_ct, Px.seq_run, Px.next_run, Px.set_run, Px.setF_run, Px.asg_run, Px.ret_run, Px.retF_run, Px.ifS_run, Px.drop_run, Px.newK_run, Px.par2F_run, Px.forS_run, Px.whileS_run, Px.turnK_nx, Px.turnK_ct, Px.turnK_bk, Px.turnK_rt, Px.turnK_rf, Px.for_nil, Px.lcA_nil, Option.bind_some, List.length_cons, List.length_nil, List.length_map, if_true, reduceCtorEq, List.replicate_succ, List.replicate_zero, Nat.reduceAdd, Nat.reduceSub, Nat.reduceLeDiff]
  rfl
end Nt

set_option Elab.async false
set_option linter.all false
set_option autoImplicit false
set_option maxRecDepth 100000
set_option maxHeartbeats 4000000
/-! Data of a bounded form that is soon written out. -/
namespace Nt
open PySem PySem.Spec PyProof.Rows L2 Lw Px
/-- of depth n at most, of weight c at most, its numbers short -/
structure Fine (n c : Nat) (d : PyData) : Prop where
  g : gd n d = true
  s : d.showable = true
  i : d.intsShort 13 = true
  w : d.weight ≤ c
theorem Fine.le {n c e : Nat} {d : PyData} (h : Fine n c d) (k : c ≤ e) : Fine n e d := ⟨h.g, h.s, h.i, Nat.le_trans h.w k⟩
theorem fine_int {n : Nat} {i : Int} (h : i.natAbs ≤ 1000000000) : Fine n 30 (.int i) := by
  have lt : i.natAbs < 2 ^ 30 := Nat.lt_of_le_of_lt h (by decide)
  refine ⟨gd_i, ?_, decide_eq_true (PyData.shown_int_le (Nat.lt_of_le_of_lt h (by decide))), ?_⟩
  · refine decide_eq_true ?_
    by_cases h0 : i.natAbs = 0
    · rw [h0]; decide
    · exact Nat.lt_trans ((Nat.log2_lt h0).mpr lt) (by decide)
  · rw [PyData.weight]
    split
    · decide
    · rename_i hz
      have h0 : i.natAbs ≠ 0 := fun e => hz (by
        have : i = 0 := Int.natAbs_eq_zero.mp e
        rw [this]; rfl)
      have := (Nat.log2_lt h0).mpr lt
      omega
theorem fine_bool {n : Nat} {b : Bool} : Fine n 0 (.bool b) := ⟨by cases n <;> rfl, rfl, rfl, by rw [PyData.weight]; exact Nat.le_refl _⟩
theorem fine_none {n : Nat} : Fine n 0 .none := ⟨by cases n <;> rfl, rfl, rfl, by rw [PyData.weight]; exact Nat.le_refl _⟩
theorem fine_str {n c : Nat} {z : Str} (h : okS z = true) (k : z.length ≤ c) : Fine n c (.str z) := ⟨gd_s.trans h, rfl, rfl, by rw [PyData.weight]; exact k⟩
theorem all_of {n c : Nat} : ∀ {ds : List PyData}, (∀ d ∈ ds, Fine n c d) → ds.all (gd n) = true ∧ PyData.showableAll ds = true ∧ PyData.intsShortAll 13 ds = true ∧ PyData.weightAll ds ≤ ds.length * (c + 1)
  | [], _ => ⟨rfl, rfl, rfl, by simp [PyData.weightAll]⟩
  | d :: ds, h => by
    obtain ⟨h1, h2, h3, h4⟩ := h d List.mem_cons_self
    obtain ⟨g1, g2, g3, g4⟩ := all_of (ds := ds) fun x hx => h x (List.mem_cons_of_mem _ hx)
    refine ⟨?_, ?_, ?_, ?_⟩
    · rw [List.all_cons, h1, g1]; rfl
    · rw [PyData.showableAll, h2, g2]; rfl
    · rw [PyData.intsShortAll, h3, g3]; rfl
    · rw [PyData.weightAll, List.length_cons, Nat.succ_mul]
      omega
theorem fine_tup {n c : Nat} {ds : List PyData} (hl : ds.length ≤ 1000) (h : ∀ d ∈ ds, Fine n c d) : Fine (n + 1) (ds.length * (c + 1)) (.tuple ds) := by
  obtain ⟨g1, g2, g3, g4⟩ := all_of h
  exact ⟨by rw [gd, decide_eq_true hl, g1]; rfl, g2, g3, by rw [PyData.weight]; exact g4⟩
theorem fine_lst {n c : Nat} {ds : List PyData} (hl : ds.length ≤ 1000) (h : ∀ d ∈ ds, Fine n c d) : Fine (n + 1) (ds.length * (c + 1)) (.list ds) := by
  obtain ⟨g1, g2, g3, g4⟩ := all_of h
  exact ⟨by rw [gd, decide_eq_true hl, g1]; rfl, g2, g3, by rw [PyData.weight]; exact g4⟩
/-- at most m of them -/
theorem fine_tupM {n c m : Nat} {ds : List PyData} (hl : ds.length ≤ m) (hm : m ≤ 1000) (h : ∀ d ∈ ds, Fine n c d) : Fine (n + 1) (m * (c + 1)) (.tuple ds) :=
  (fine_tup (Nat.le_trans hl hm) h).le (Nat.mul_le_mul_right _ hl)
theorem fine_lstM {n c m : Nat} {ds : List PyData} (hl : ds.length ≤ m) (hm : m ≤ 1000) (h : ∀ d ∈ ds, Fine n c d) : Fine (n + 1) (m * (c + 1)) (.list ds) :=
  (fine_lst (Nat.le_trans hl hm) h).le (Nat.mul_le_mul_right _ hl)
theorem fine_strOk {d : PyData} (h : Fine 30 1000000 d) : strOkB d = true := by
  obtain ⟨h4, h5⟩ := gd_lay 30 d h.g
  have hd := PyData.hasDict_of_canLay d h4
  have hw := h.w
  have hs := PyData.shown_le 13 (by decide) d (PyData.leavesShort_of_canLay0 13 d h4 h.i)
  have e2 : sizeLine = 16777216 := by decide
  unfold strOkB
  rw [h4, h.s, hd, decide_eq_true (show d.depth ≤ 60 by omega), decide_eq_true (show d.shown.length ≤ sizeLine by omega)]
  rfl
theorem name_len {z : Str} (h : nameOk z = true) : z.length ≤ 8 := by
  unfold nameOk at h
  split at h
  · cases h
  · simp only [Bool.and_eq_true, decide_eq_true_eq] at h
    exact h.1.1.1
theorem fine_name {n : Nat} {z : Str} (h : NmOk z) : Fine n 8 (.str z) := fine_str h.2 (name_len h.1)
theorem fine_part {n : Nat} {q : Str × Int} (h : NmOk q.1) (hi : q.2.natAbs ≤ 1000000000) : Fine (n + 1) 62 (partD q) := by
  refine (fine_tup (c := 30) (ds := [.str q.1, .int q.2]) (show 2 ≤ 1000 by decide) fun d hd => ?_).le (show 2 * 31 ≤ 62 by decide)
  rcases List.mem_cons.mp hd with e | hd
  · rw [e]; exact (fine_name h).le (by decide)
  · rw [List.mem_singleton.mp hd]; exact fine_int hi
theorem fine_parts {n m : Nat} (hm : m ≤ 1000) {qs : List (Str × Int)} (hl : qs.length ≤ m) (h : ∀ q ∈ qs, NmOk q.1 ∧ q.2.natAbs ≤ 1000000000) : Fine (n + 2) (m * 63) (.tuple (qs.map partD)) :=
  fine_tupM (by rw [List.length_map]; exact hl) hm fun d hd => by
    obtain ⟨q, hq, e⟩ := List.mem_map.mp hd
    rw [← e]
    exact fine_part (h q hq).1 (h q hq).2
theorem parts_small {zs : List Str} {ps : List (Str × Int)} (hz : ∀ z ∈ zs, NmOk z) (h : PartsOk zs ps) : ps.length ≤ zs.length ∧ ∀ q ∈ ps, NmOk q.1 ∧ q.2.natAbs ≤ 1000000000 := by
  refine ⟨?_, fun q hq => ⟨hz _ (h.1.subset (List.mem_map_of_mem hq)), ?_⟩⟩
  · have := h.1.length_le
    rwa [List.length_map] at this
  · have := h.2 q hq
    omega
theorem fine_fire {n : Nat} {zs : List Str} (hz : ∀ z ∈ zs, NmOk z) (hl : zs.length ≤ 5) {f : Fire} (h1 : NmOk f.1) (h2 : f.2.1 = "" ∨ NmOk f.2.1) (h3 : PartsOk zs f.2.2.1) (h4 : PartsOk zs f.2.2.2) : Fine (n + 3) 1264 (fireD f) := by
  obtain ⟨l3, p3⟩ := parts_small hz h3
  obtain ⟨l4, p4⟩ := parts_small hz h4
  refine (fine_tup (n := n + 2) (c := 315) (ds := [.str f.1, .str f.2.1, .tuple (f.2.2.1.map partD), .tuple (f.2.2.2.map partD)]) (show 4 ≤ 1000 by decide) fun d hd => ?_).le (show 4 * 316 ≤ 1264 by decide)
  rcases List.mem_cons.mp hd with e | hd
  · rw [e]; exact (fine_name h1).le (by decide)
  rcases List.mem_cons.mp hd with e | hd
  · rw [e]
    rcases h2 with h2 | h2
    · rw [h2]; exact fine_str (by decide +kernel) (by decide)
    · exact (fine_name h2).le (by decide)
  rcases List.mem_cons.mp hd with e | hd
  · rw [e]; exact fine_parts (m := 5) (by decide) (Nat.le_trans l3 hl) p3
  · rw [List.mem_singleton.mp hd]; exact fine_parts (m := 5) (by decide) (Nat.le_trans l4 hl) p4
/-- a drawn net's two parts -/
structure Web (qs : List (Str × Int)) (fs : List Fire) : Prop where
  ne : 1 ≤ qs.length
  le : qs.length ≤ 5
  nm : ∀ q ∈ qs, NmOk q.1 ∧ q.2.natAbs ≤ 999999999
  fl : fs.length ≤ 60
  ff : ∀ f ∈ fs, ∀ n, Fine (n + 3) 1264 (fireD f)
theorem web_of {qs : List (Str × Int)} {fs : List Fire} (h : NetG qs fs) (h5 : qs.length ≤ 5) : Web qs fs := by
  refine ⟨h.ne, h5, fun q hq => ⟨h.nm q hq, ?_⟩, h.fl, fun f hf n => fine_fire (zs := qs.map (·.1)) (fun z hz => ?_) (by rw [List.length_map]; exact h5) (h.fn f hf) (h.lb f hf) (h.ta f hf) (h.gi f hf)⟩
  · have := h.cnt q hq
    omega
  · obtain ⟨q, hq, e⟩ := List.mem_map.mp hz
    rw [← e]
    exact h.nm q hq
end Nt

set_option Elab.async false
set_option linter.all false
set_option autoImplicit false
set_option maxRecDepth 100000
set_option maxHeartbeats 4000000
namespace Nt
open PySem PySem.Spec PyProof.Rows L2 Lw Px Zn
section
variable {P : Program} {w : World} {G : Gx} {mg : Str → Option Value} {base : Heap}
/-! ### _law_no_net -/
abbrev s_Lno_net : Stmt := topS 39
abbrev n_Lno_net : List Str := ["_law_purse_here", "_law_web", "_law_places", "_law_firings", "_law_first", "_law_odd", "_law_some"]
theorem sc_Lno_net : FnScope n_Lno_net ["_law_purse_here", "_law_web"] (defScope s_Lno_net) := ⟨rfl, rfl, rfl, by decide +kernel, rfl, by decide +kernel, by decide +kernel⟩
def b_Lno_net : Xs := (Xs.seq (Xs.asg (Xg.tup [2, 3]) (Xe.var 1))
    (Xs.seq (Xs.set 4 (Xe.op oIx (Xe.var 2) (Xe.int 0)))
    (Xs.seq (Xs.set 5 (Xe.tup (Xa.cons (Xe.str "tz") (Xa.cons (Xe.str "") (Xa.cons (Xe.tup (Xa.cons (Xe.tup (Xa.cons (Xe.str "zzz") (Xa.cons (Xe.int 1) Xa.nil))) Xa.nil)) (Xa.cons (Xe.tup Xa.nil) Xa.nil))))))
    (Xs.seq (Xs.set 6 (Xe.lst (Xa.cons (Xe.tup (Xa.cons (Xe.op oCatT (Xe.var 2) (Xe.tup (Xa.cons (Xe.var 4) Xa.nil))) (Xa.cons (Xe.var 3) Xa.nil))) (Xa.cons (Xe.tup (Xa.cons (Xe.op oCatT (Xe.tup (Xa.cons (Xe.tup (Xa.cons (Xe.op oIx (Xe.var 4) (Xe.int 0)) (Xa.cons (Xe.neg (Xe.int 1)) Xa.nil))) Xa.nil)) (Xe.sl slT (Xe.var 2) (Xq.some (Xe.int 1)) Xq.none)) (Xa.cons (Xe.var 3) Xa.nil))) (Xa.cons (Xe.tup (Xa.cons (Xe.var 2) (Xa.cons (Xe.op oCatT (Xe.var 3) (Xe.tup (Xa.cons (Xe.var 5) Xa.nil))) Xa.nil))) Xa.nil)))))
    (Xs.seq (Xs.set 6 (Xe.op oCat (Xe.var 6) (Xe.lst (Xa.cons (Xe.tup (Xa.cons (Xe.var 2) Xa.nil)) (Xa.cons (Xe.tup (Xa.cons (Xe.var 2) (Xa.cons (Xe.cb bLst (Xa.cons (Xe.var 3) Xa.nil)) Xa.nil))) (Xa.cons Xe.non (Xa.cons (Xe.tup (Xa.cons (Xe.tup Xa.nil) (Xa.cons (Xe.var 3) Xa.nil))) (Xa.cons (Xe.tup (Xa.cons (Xe.var 2) (Xa.cons (Xe.op oCatT (Xe.var 3) (Xe.tup (Xa.cons (Xe.tup Xa.nil) Xa.nil))) Xa.nil))) Xa.nil))))))))
    (Xs.ret (Xe.op oIx (Xe.var 6) (Xe.callM f_Ldraw 0 (Xa.cons (Xe.int 8) Xa.nil)))))))))
def f_Lno_net : Fn := fnOf 2 7 b_Lno_net
theorem ok_Lno_net (D : DefAt G.K mg "_law_no_net" s_Lno_net ["_law_purse_here", "_law_web"]) (B : Bi mg) (c_Ldraw : Cal P w G.K mg base 2 "_law_draw" (spG G.K f_Ldraw)) : Cal P w G.K mg base 3 "_law_no_net" (spG G.K f_Lno_net) :=
  DefAt.calG rfl D sc_Lno_net (by decide) fun f cdv A outer s H E hr => pss_eq
  (pss_cons (ps_asg (pv 1) (pg_tup rfl (pgs_cons (pg_name (i := 2) sc_Lno_net.nd rfl (.inl rfl)) (pgs_cons (pg_name (i := 3) sc_Lno_net.nd rfl (.inl rfl)) pgs_nil))))
    (pss_cons (ps_set (i := 4) sc_Lno_net.nd rfl (.inl rfl) (pe_ix ix_seq (pv 2) pe_int (fun _ _ => rfl)))
    (pss_cons (ps_set (i := 5) sc_Lno_net.nd rfl (.inl rfl) (pe_tup (pa_cons pe_str (pa_cons pe_str (pa_cons (pe_tup (pa_cons (pe_tup (pa_cons pe_str (pa_cons pe_int pa_nil))) pa_nil)) (pa_cons (pe_tup pa_nil) pa_nil))))))
    (pss_cons (ps_set (i := 6) sc_Lno_net.nd rfl (.inl rfl) (pe_lst (pa_cons (pe_tup (pa_cons (pe_op op_catA (pv 2) (pe_tup (pa_cons (pv 4) pa_nil))) (pa_cons (pv 3) pa_nil))) (pa_cons (pe_tup (pa_cons (pe_op op_catA (pe_tup (pa_cons (pe_tup (pa_cons (pe_ix ix_seq (pv 4) pe_int (fun _ _ => rfl)) (pa_cons (pe_un un_neg pe_int) pa_nil))) pa_nil)) (pe_slice sl_tupA (pv 2) (po_some pe_int) po_none)) (pa_cons (pv 3) pa_nil))) (pa_cons (pe_tup (pa_cons (pv 2) (pa_cons (pe_op op_catA (pv 3) (pe_tup (pa_cons (pv 5) pa_nil))) pa_nil))) pa_nil)))))
    (pss_cons (ps_set (i := 6) sc_Lno_net.nd rfl (.inl rfl) (pe_op op_cat (pv 6) (pe_lst (pa_cons (pe_tup (pa_cons (pv 2) pa_nil)) (pa_cons (pe_tup (pa_cons (pv 2) (pa_cons (pe_callTy call_list_of (by rfl) B.list PyProof.Rows.boot_list (pa_cons (pv 3) pa_nil)) pa_nil))) (pa_cons pe_non (pa_cons (pe_tup (pa_cons (pe_tup pa_nil) (pa_cons (pv 3) pa_nil))) (pa_cons (pe_tup (pa_cons (pv 2) (pa_cons (pe_op op_catA (pv 3) (pe_tup (pa_cons (pe_tup pa_nil) pa_nil))) pa_nil))) pa_nil))))))))
    (pss_one (ps_ret (pe_ix ix_seq (pv 6) (pe_d c_Ldraw hr (by decide) (by rfl) (pa_cons (pv 0) (pa_cons pe_int pa_nil))) (fun _ _ => rfl))))))))) rfl
/-! ### _law_stock -/
abbrev s_Lstock : Stmt := topS 40
abbrev n_Lstock : List Str := ["_law_purse_here", "_law_web", "_law_stock_here", "_law_place", "_law_at_here", "_law_pick", "_law_some"]
theorem sc_Lstock : FnScope n_Lstock ["_law_purse_here", "_law_web"] (defScope s_Lstock) := ⟨rfl, rfl, rfl, by decide +kernel, rfl, by decide +kernel, by decide +kernel⟩
def b_Lstock : Xs := (Xs.seq (Xs.set 2 (Xe.cb bTup (Xa.cons (Xe.ofF (Xf.lc (itTup (Xe.op oIx (Xe.var 1) (Xe.int 0))) (Xg.name 3) Xt.yes (Xe.callM f_Ldraw 0 (Xa.cons (Xe.int 9) Xa.nil)) [3] (own_xname (by simp)))) Xa.nil)))
    (Xs.seq (Xs.set 4 (Xe.callM f_Ldraw 0 (Xa.cons (Xe.cb bLen (Xa.cons (Xe.var 2) Xa.nil)) Xa.nil)))
    (Xs.seq (Xs.set 5 (Xe.callM f_Ldraw 0 (Xa.cons (Xe.int 9) Xa.nil)))
    (Xs.seq (Xs.set 6 (Xe.lst (Xa.cons (Xe.sl slT (Xe.var 2) (Xq.some (Xe.int 1)) Xq.none) (Xa.cons (Xe.op oCatT (Xe.var 2) (Xe.tup (Xa.cons (Xe.int 0) Xa.nil))) (Xa.cons (Xe.op oCatT (Xe.op oCatT (Xe.sl slT (Xe.var 2) Xq.none (Xq.some (Xe.var 4))) (Xe.tup (Xa.cons (Xe.neg (Xe.int 1)) Xa.nil))) (Xe.sl slT (Xe.var 2) (Xq.some (Xe.op oAdd (Xe.var 4) (Xe.int 1))) Xq.none)) (Xa.cons (Xe.op oCatT (Xe.op oCatT (Xe.sl slT (Xe.var 2) Xq.none (Xq.some (Xe.var 4))) (Xe.tup (Xa.cons (Xe.bl true) Xa.nil))) (Xe.sl slT (Xe.var 2) (Xq.some (Xe.op oAdd (Xe.var 4) (Xe.int 1))) Xq.none)) Xa.nil))))))
    (Xs.seq (Xs.set 6 (Xe.op oCat (Xe.var 6) (Xe.lst (Xa.cons (Xe.op oCatT (Xe.op oCatT (Xe.sl slT (Xe.var 2) Xq.none (Xq.some (Xe.var 4))) (Xe.tup (Xa.cons (Xe.str "1") Xa.nil))) (Xe.sl slT (Xe.var 2) (Xq.some (Xe.op oAdd (Xe.var 4) (Xe.int 1))) Xq.none)) (Xa.cons (Xe.cb bLst (Xa.cons (Xe.var 2) Xa.nil)) (Xa.cons Xe.non (Xa.cons (Xe.int 7) Xa.nil)))))))
    (Xs.seq (Xs.ifS (Xt.of (Xe.op oLt (Xe.var 5) (Xe.int 8))) (Xs.ret (Xe.op oIx (Xe.var 6) (Xe.var 5))) Xs.next)
    (Xs.ret (Xe.var 2))))))))
def f_Lstock : Fn := fnOf 2 7 b_Lstock
theorem ok_Lstock (D : DefAt G.K mg "_law_stock" s_Lstock ["_law_purse_here", "_law_web"]) (B : Bi mg) (c_Ldraw : Cal P w G.K mg base 2 "_law_draw" (spG G.K f_Ldraw)) : Cal P w G.K mg base 3 "_law_stock" (spG G.K f_Lstock) :=
  DefAt.calG rfl D sc_Lstock (by decide) fun f cdv A outer s H E hr => pss_eq
  (pss_cons (ps_set (i := 2) sc_Lstock.nd rfl (.inl rfl) (pe_callTy call_tuple_of (by rfl) B.tup PyProof.Rows.boot_tuple (pa_cons (pe_lc (own := [("_law_place", 3)]) (g := Xg.t (Xg.name 3) G) (tt := Xt.t Xt.yes G) (te := Xe.t (Xe.callM f_Ldraw 0 (Xa.cons (Xe.int 9) Xa.nil)) G) rfl sc_Lstock.nd (pi_tup (pe_ix ix_seq (pv 1) pe_int (fun _ _ => rfl))) (blkOk_by (own := [("_law_place", 3)]) (N := n_Lstock) (sc := defScope s_Lstock) (by decide +kernel)) (fun _ _ _ _ _ => (pg_eq (pg_name (i := 3) sc_Lstock.nd rfl (.inl rfl)) rfl)) (fun _ _ _ _ _ => (pts_eq pts_nil rfl)) (fun _ _ _ _ _ => (pe_eq (pe_d c_Ldraw hr (by decide) (by rfl) (pa_cons (pv 0) (pa_cons pe_int pa_nil))) rfl))) pa_nil)))
    (pss_cons (ps_set (i := 4) sc_Lstock.nd rfl (.inl rfl) (pe_d c_Ldraw hr (by decide) (by rfl) (pa_cons (pv 0) (pa_cons (pe_callB call_len (by rfl) B.len PySem.boot_len (pa_cons (pv 2) pa_nil)) pa_nil))))
    (pss_cons (ps_set (i := 5) sc_Lstock.nd rfl (.inl rfl) (pe_d c_Ldraw hr (by decide) (by rfl) (pa_cons (pv 0) (pa_cons pe_int pa_nil))))
    (pss_cons (ps_set (i := 6) sc_Lstock.nd rfl (.inl rfl) (pe_lst (pa_cons (pe_slice sl_tupA (pv 2) (po_some pe_int) po_none) (pa_cons (pe_op op_catA (pv 2) (pe_tup (pa_cons pe_int pa_nil))) (pa_cons (pe_op op_catA (pe_op op_catA (pe_slice sl_tupA (pv 2) po_none (po_some (pv 4))) (pe_tup (pa_cons (pe_un un_neg pe_int) pa_nil))) (pe_slice sl_tupA (pv 2) (po_some (pe_op op_add (pv 4) pe_int)) po_none)) (pa_cons (pe_op op_catA (pe_op op_catA (pe_slice sl_tupA (pv 2) po_none (po_some (pv 4))) (pe_tup (pa_cons pe_bl pa_nil))) (pe_slice sl_tupA (pv 2) (po_some (pe_op op_add (pv 4) pe_int)) po_none)) pa_nil))))))
    (pss_cons (ps_set (i := 6) sc_Lstock.nd rfl (.inl rfl) (pe_op op_cat (pv 6) (pe_lst (pa_cons (pe_op op_catA (pe_op op_catA (pe_slice sl_tupA (pv 2) po_none (po_some (pv 4))) (pe_tup (pa_cons pe_str pa_nil))) (pe_slice sl_tupA (pv 2) (po_some (pe_op op_add (pv 4) pe_int)) po_none)) (pa_cons (pe_callTy call_list_of (by rfl) B.list PyProof.Rows.boot_list (pa_cons (pv 2) pa_nil)) (pa_cons pe_non (pa_cons pe_int pa_nil)))))))
    (pss_cons (ps_if (pt_cmpR op_lt (pv 5) pe_int (nomark _)) (pss_one (ps_ret (pe_ix ix_seq (pv 6) (pv 5) (fun _ _ => rfl)))) pss_nil)
    (pss_one (ps_ret (pv 2))))))))) rfl
/-! ### _law_due -/
abbrev s_Ldue : Stmt := topS 41
abbrev n_Ldue : List Str := ["_law_one", "_law_two", "_law_stock_here", "_law_web"]
theorem sc_Ldue : FnScope n_Ldue ["_law_one", "_law_two", "_law_stock_here"] (defScope s_Ldue) := ⟨rfl, rfl, rfl, by decide +kernel, rfl, by decide +kernel, by decide +kernel⟩
def b_Ldue : Xs := (Xs.seq (Xs.forS (itList (Xe.lst (Xa.cons (Xe.var 0) (Xa.cons (Xe.var 1) Xa.nil)))) (Xg.name 3) (Xs.ifS (Xt.of (Xe.op oNotN (Xe.call f_net_wrong (Xa.cons (Xe.var 3) Xa.nil)) Xe.non)) (Xs.ret (Xe.lst (Xa.cons (Xe.str "NoNet") (Xa.cons (Xe.call f_net_wrong (Xa.cons (Xe.var 3) Xa.nil)) Xa.nil)))) Xs.next) [3])
    (Xs.seq (Xs.ifS (Xt.of (Xe.op oNotN (Xe.call f_heap_wrong (Xa.cons (Xe.var 0) (Xa.cons (Xe.var 2) Xa.nil))) Xe.non)) (Xs.ret (Xe.lst (Xa.cons (Xe.str "NoHeap") (Xa.cons (Xe.call f_heap_wrong (Xa.cons (Xe.var 0) (Xa.cons (Xe.var 2) Xa.nil))) Xa.nil)))) Xs.next)
    (Xs.ret (Xe.lst Xa.nil))))
def f_Ldue : Fn := fnOf 3 4 b_Ldue
theorem ok_Ldue (D : DefAt G.K mg "_law_due" s_Ldue ["_law_one", "_law_two", "_law_stock_here"]) (B : Bi mg) (c_net_wrong : Cal P w G.K mg base 6 "net_wrong" (spG G.K f_net_wrong)) (c_heap_wrong : Cal P w G.K mg base 8 "heap_wrong" (spG G.K f_heap_wrong)) : Cal P w G.K mg base 9 "_law_due" (spG G.K f_Ldue) :=
  DefAt.calG rfl D sc_Ldue (by decide) fun f cdv A outer s H E hr => pss_eq
  (pss_cons (ps_for PassesOwn.never rfl (pi_list (pe_lst (pa_cons (pv 0) (pa_cons (pv 1) pa_nil)))) (pg_name (i := 3) sc_Ldue.nd rfl (.inl rfl)) (pss_one (ps_if (pt_cmpR op_notN (pe_d c_net_wrong hr (by decide) (by rfl) (pa_cons (pv 3) pa_nil)) pe_non (nomark _)) (pss_one (ps_ret (pe_lst (pa_cons pe_str (pa_cons (pe_d c_net_wrong hr (by decide) (by rfl) (pa_cons (pv 3) pa_nil)) pa_nil))))) pss_nil)))
    (pss_cons (ps_if (pt_cmpR op_notN (pe_d c_heap_wrong hr (by decide) (by rfl) (pa_cons (pv 0) (pa_cons (pv 2) pa_nil))) pe_non (nomark _)) (pss_one (ps_ret (pe_lst (pa_cons pe_str (pa_cons (pe_d c_heap_wrong hr (by decide) (by rfl) (pa_cons (pv 0) (pa_cons (pv 2) pa_nil))) pa_nil))))) pss_nil)
    (pss_one (ps_ret (pe_lst pa_nil))))) rfl
/-! ### _law_refusal -/
abbrev s_Lrefusal : Stmt := topS 42
abbrev n_Lrefusal : List Str := ["_law_one", "_law_two", "_law_stock_here", "_law_error", "caught"]
theorem sc_Lrefusal : FnScope n_Lrefusal ["_law_one", "_law_two", "_law_stock_here"] (defScope s_Lrefusal) := ⟨rfl, rfl, rfl, by decide +kernel, rfl, by decide +kernel, by decide +kernel⟩
def b_Lrefusal : Xs := (Xs.seq (Xs.set 3 Xe.non)
    (Xs.seq (Xs.tryK "NetError" ["NoNet", "NoHeap", "Gone"] 4 3 (Ys.dropC fx_led (Xa.cons (Xe.var 0) (Xa.cons (Xe.var 1) (Xa.cons (Xe.var 2) (Xa.cons Xe.dnil Xa.nil))))))
    (Xs.seq (Xs.ifS (Xt.of (Xe.isx 3 "NoNet" ["NoNet", "NoHeap", "Gone"])) (Xs.ret (Xe.lst (Xa.cons (Xe.str "NoNet") (Xa.cons (Xe.xfld 3 "NoNet" "wrong") Xa.nil)))) Xs.next)
    (Xs.seq (Xs.ifS (Xt.of (Xe.isx 3 "NoHeap" ["NoNet", "NoHeap", "Gone"])) (Xs.ret (Xe.lst (Xa.cons (Xe.str "NoHeap") (Xa.cons (Xe.xfld 3 "NoHeap" "wrong") Xa.nil)))) Xs.next)
    (Xs.ret (Xe.op oIx (Xe.lst (Xa.cons (Xe.lst (Xa.cons (Xe.str "other") Xa.nil)) (Xa.cons (Xe.lst Xa.nil) Xa.nil))) (Xe.cb bInt (Xa.cons (Xe.orV (Xe.isNx 3) (Xe.isx 3 "Gone" ["NoNet", "NoHeap", "Gone"])) Xa.nil))))))))
def f_Lrefusal : Fn := fnOf 3 5 b_Lrefusal
theorem ok_Lrefusal (D : DefAt G.K mg "_law_refusal" s_Lrefusal ["_law_one", "_law_two", "_law_stock_here"]) (B : Bi mg) (cx_led : CalX P w G.K mg base 10 "led" (spX G.K fx_led)) (ER : ErrC G.K mg "NetError" ["NoNet", "NoHeap", "Gone"] [("NoNet", "wrong"), ("NoHeap", "wrong")]) : Cal P w G.K mg base 11 "_law_refusal" (spG G.K f_Lrefusal) :=
  DefAt.calG rfl D sc_Lrefusal (by decide) fun f cdv A outer s H E hr => pss_eq
  (pss_cons (ps_set (i := 3) sc_Lrefusal.nd rfl (.inl rfl) pe_non)
    (pss_cons (ps_catch (G := G) rfl ER rfl rfl rfl sc_Lrefusal.nd rfl rfl rfl (fun W pn xe tk => pss_eq (pss_one (ps_expr (pe_dX cx_led hr (by decide) tk rfl (pa_cons (pv 0) (pa_cons (pv 1) (pa_cons (pv 2) (pa_cons (pe_pl pe_dnewK) pa_nil))))))) rfl) (fun a oe pn => ps_set (i := 3) sc_Lrefusal.nd rfl (.inl rfl) (pv 4)))
    (pss_cons (ps_if (pt_val (pe_isx (G := G) rfl ER (pe_callB call_isE2 (by rfl) B.isi (by decide +kernel) (pa_cons (pv 3) (pa_cons (pe_cls ER (by decide) rfl) pa_nil))))) (pss_one (ps_ret (pe_lst (pa_cons pe_str (pa_cons (pe_xfld (G := G) rfl ER (by decide) (pv 3)) pa_nil))))) pss_nil)
    (pss_cons (ps_if (pt_val (pe_isx (G := G) rfl ER (pe_callB call_isE2 (by rfl) B.isi (by decide +kernel) (pa_cons (pv 3) (pa_cons (pe_cls ER (by decide) rfl) pa_nil))))) (pss_one (ps_ret (pe_lst (pa_cons pe_str (pa_cons (pe_xfld (G := G) rfl ER (by decide) (pv 3)) pa_nil))))) pss_nil)
    (pss_one (ps_ret (pe_ix ix_seq (pe_lst (pa_cons (pe_lst (pa_cons pe_str pa_nil)) (pa_cons (pe_lst pa_nil) pa_nil))) (pe_callTy call_int1 (by rfl) B.int PyProof.Rows.boot_int (pa_cons (pe_or (pe_cmpR op_isN (pv 3) pe_non (nomark _)) (pe_one (pe_isx (G := G) rfl ER (pe_callB call_isE2 (by rfl) B.isi (by decide +kernel) (pa_cons (pv 3) (pa_cons (pe_cls ER (by decide) rfl) pa_nil)))))) pa_nil)) (fun _ _ => rfl)))))))) rfl
end
end Nt

set_option Elab.async false
set_option linter.all false
set_option autoImplicit false
set_option maxRecDepth 100000
set_option maxHeartbeats 4000000
/-! What is drawn beside the nets: none at all, stock. -/
namespace Nt
open PySem PySem.Spec PyProof.Rows L2 Lw Px
/-- two parts, the first pairs of a name and a number; or what is no net by its form -/
def Two (d : PyData) : Prop := (∃ (qs : List (Str × Int)) (x : PyData), d = .tuple [.tuple (qs.map partD), x] ∧ qs.length ≤ 100) ∨ netWrong d = oneD "net"
theorem two_net (qs : List (Str × Int)) (fs : List Fire) (h : qs.length ≤ 100) : Two (netD qs fs) := .inl ⟨qs, _, rfl, h⟩
theorem web_places {qs : List (Str × Int)} {fs : List Fire} (h : Web qs fs) (n : Nat) : Fine (n + 2) 400 (.tuple (qs.map partD)) := (fine_parts (m := 5) (by decide) h.le fun q hq => ⟨(h.nm q hq).1, by have := (h.nm q hq).2; omega⟩).le (by decide)
theorem web_fires {qs : List (Str × Int)} {fs : List Fire} (h : Web qs fs) (n : Nat) : ∀ d ∈ fs.map fireD, Fine (n + 3) 1264 d := fun d hd => by
  obtain ⟨f, hf, e⟩ := List.mem_map.mp hd
  rw [← e]
  exact h.ff f hf n
theorem web_firings {qs : List (Str × Int)} {fs : List Fire} (h : Web qs fs) (n : Nat) : Fine (n + 4) 100000 (.tuple (fs.map fireD)) := (fine_tupM (m := 60) (by rw [List.length_map]; exact h.fl) (by decide) (web_fires h n)).le (by decide)
theorem fine_pair {n c : Nat} {a b : PyData} (ha : Fine n c a) (hb : Fine n c b) : Fine (n + 1) (2 * (c + 1)) (.tuple [a, b]) :=
  fine_tup (ds := [a, b]) (show 2 ≤ 1000 by decide) fun d hd => by
    rcases List.mem_cons.mp hd with e | hd
    · rw [e]; exact ha
    · rw [List.mem_singleton.mp hd]; exact hb
theorem fine_net {qs : List (Str × Int)} {fs : List Fire} (h : Web qs fs) (n : Nat) : Fine (n + 5) 210000 (netD qs fs) := (fine_pair ((web_places h (n + 2)).le (by decide)) (web_firings h n)).le (by decide)
theorem nm_odd : NmOk "tz" ∧ NmOk "zzz" := by
  unfold NmOk
  decide +kernel
theorem fine_odd (n : Nat) : Fine (n + 3) 1264 (.tuple [.str "tz", .str "", .tuple [.tuple [.str "zzz", .int 1]], .tuple []]) := by
  refine (fine_tup (n := n + 2) (c := 100) (ds := [.str "tz", .str "", .tuple [.tuple [.str "zzz", .int 1]], .tuple []]) (show 4 ≤ 1000 by decide) fun d hd => ?_).le (show 4 * 101 ≤ 1264 by decide)
  rcases List.mem_cons.mp hd with e | hd
  · rw [e]; exact (fine_name nm_odd.1).le (by decide)
  rcases List.mem_cons.mp hd with e | hd
  · rw [e]; exact fine_str (by decide +kernel) (by decide)
  rcases List.mem_cons.mp hd with e | hd
  · rw [e]
    exact (fine_parts (m := 1) (qs := [("zzz", 1)]) (by decide) (by decide) fun q hq => by rw [List.mem_singleton.mp hq]; exact ⟨nm_odd.2, by decide⟩).le (by decide)
  · rw [List.mem_singleton.mp hd]
    exact (fine_tup (n := n + 1) (c := 0) (ds := []) (by decide) fun d hd => nomatch hd).le (by decide)
theorem atI_zero (p : PyData) (ps : List PyData) : atI (p :: ps) 0 = some p := atI_nat (j := 0) rfl
theorem cut_one {p : PyData} {ps : List PyData} : Lw.cutD (p :: ps) (some 1) none = ps := by
  have e : HT.sIx (p :: ps).length 0 (some 1) = min 1 (p :: ps).length := HT.sIx_nat _ _ 1
  unfold Lw.cutD
  rw [e, HT.sIx_none, List.length_cons, show min 1 (ps.length + 1) = 1 by omega, List.drop_succ_cons, List.drop_zero, Nat.add_sub_cancel, List.take_length]
theorem cut_sub {ds : List PyData} {lo hi : Option Int} : (∀ d ∈ Lw.cutD ds lo hi, d ∈ ds) ∧ (Lw.cutD ds lo hi).length ≤ ds.length := by
  unfold Lw.cutD
  refine ⟨fun d hd => List.mem_of_mem_drop (List.mem_of_mem_take hd), ?_⟩
  rw [List.length_take, List.length_drop]
  omega
theorem atI_in {ds : List PyData} {d : Int} (h0 : 0 ≤ d) (h1 : d < (ds.length : Int)) : ∃ y ∈ ds, oIx.f (.list ds) (.int d) = some y := by
  have hl : d.toNat < ds.length := by omega
  refine ⟨ds[d.toNat], List.getElem_mem hl, ?_⟩
  have e := atI_nat (List.getElem?_eq_getElem hl)
  rw [Int.toNat_of_nonneg h0] at e
  exact e
theorem no_net_is {n : Nat} {qs : List (Str × Int)} {fs : List Fire} {bs : List PyData} (h : PurseOk (n + 1) bs) (W : Web qs fs) :
    ∃ (d : PyData) (bs' : List PyData), f_Lno_net (.own bs) [netD qs fs] = some (.dat d, bs') ∧ Two d ∧ Fine 10 220000 d ∧ PurseOk n bs' := by
  obtain ⟨q0, qr, rfl⟩ : ∃ q0 qr, qs = q0 :: qr := by
    cases qs with
    | nil => exact absurd W.ne (by decide)
    | cons q0 qr => exact ⟨_, _, rfl⟩
  obtain ⟨d, bs', e, h0, h1, hp⟩ := draw_is h (m := 8) (by decide) (by decide)
  have hql : (q0 :: qr).length ≤ 5 := W.le
  have hqr : qr.length ≤ 4 := Nat.le_of_succ_le_succ hql
  have hfl := W.fl
  have c1 : oCatT.f (.tuple (partD q0 :: qr.map partD)) (.tuple [partD q0]) = some (.tuple ((partD q0 :: qr.map partD) ++ [partD q0])) := catT_f (by rw [List.length_cons, List.length_map, List.length_singleton]; omega)
  have c2 : oCatT.f (.tuple [.tuple [.str q0.1, .int (-1)]]) (.tuple (qr.map partD)) = some (.tuple ([.tuple [.str q0.1, .int (-1)]] ++ qr.map partD)) := catT_f (by rw [List.length_map, List.length_singleton]; omega)
  have c3 : ∀ o : PyData, oCatT.f (.tuple (fs.map fireD)) (.tuple [o]) = some (.tuple (fs.map fireD ++ [o])) := fun o => catT_f (by rw [List.length_map, List.length_singleton]; omega)
  have c5 : ∀ a b : List PyData, a.length ≤ 5 → b.length ≤ 5 → oCat.f (.list a) (.list b) = some (.list (a ++ b)) := fun a b ha hb => cat_f (by omega)
  have x0 : ∀ (p : PyData) (ps : List PyData), oIx.f (.tuple (p :: ps)) (.int 0) = some p := fun p ps => by
    rw [Px.ix_tuple]
    exact atI_zero _ _
  have x1 : oIx.f (partD q0) (.int 0) = some (.str q0.1) := x0 _ _
  have lt : ∀ xs : List PyData, xs.length ≤ 6 → xs.length ≤ 100000 := fun xs k => by omega
  obtain ⟨P, hP⟩ : ∃ P : List PyData, P = partD q0 :: qr.map partD := ⟨_, rfl⟩
  obtain ⟨F, hF⟩ : ∃ F : List PyData, F = fs.map fireD := ⟨_, rfl⟩
  have hN : netD (q0 :: qr) fs = .tuple [.tuple P, .tuple F] := by rw [hP, hF]; rfl
  have ch := atI_in (ds := [.tuple [.tuple (P ++ [partD q0]), .tuple F], .tuple [.tuple (.tuple [.str q0.1, .int (-1)] :: qr.map partD), .tuple F], .tuple [.tuple P, .tuple (F ++ [.tuple [.str "tz", .str "", .tuple [.tuple [.str "zzz", .int 1]], .tuple []]])],
    .tuple [.tuple P], .tuple [.tuple P, .list F], .none, .tuple [.tuple [], .tuple F], .tuple [.tuple P, .tuple (F ++ [.tuple []])]]) h0 h1
  obtain ⟨y, hy, ey⟩ := ch
  refine ⟨y, bs', ?_, ?_, ?_, hp⟩
  · have k1 : Lw.cutD P (some 1) none = qr.map partD := by rw [hP]; exact cut_one
    rw [← hP] at c1
    rw [← hF] at c3
    have x2 : oIx.f (.tuple P) (.int 0) = some (partD q0) := by rw [hP]; exact x0 _ _
    rw [hN]
    unfold f_Lno_net
    rw [fnOf_eq (by rfl)]
    unfold b_Lno_net
    simp only [Px.gt_zero, Px.gt_succ, Px.st_zero, Px.st_succ, Px.wp_nil, Px.wp_cons, Px.fz_nil, Px.fz_lst, Px.fz_dat, Px.fz_dct, Px.fz_seq, Px.fz_none, Px.tl_nil, Px.tl_cons, Px.ent_no, Px.ent_own, Px.ent_seq, Px.argN_no, Px.argN_own, Px.argN_seq, Px.endO_rt, Px.endO_nx, Px.endO_rf, Px.endO_srt, Px.endO_srf, Px.endO_ort, Px.endO_onx, Px.int_ev, Px.str_ev, Px.bl_ev, Px.non_ev, Px.var_ev, Px.varE_zd, Px.varE_zl, Px.consV_some, Px.varE_s, Px.op_ev, Px.nil_ev, Px.cons_ev, Px.tup_ev, Px.lst_ev, Px.cb_ev, Px.asB_b, Px.andV_ev, Px.orV_ev, Px.notV_ev, Px.of_ev, Px.and_ev, Px.or_ev, Px.not_ev, Px.yes_ev, Px.ttmp_ev, Px.ifE_ev, Px.tmp_ev, Px.flat_int, Px.flat_str, Px.flat_bool, Px.flat_none, Px.asL_l, Px.asT_t, Px.asI_i, Px.asK_d, Px.ofF_ev, Px.flst_ev, Px.lc_ev, Px.asD_d, Px.asF_f, Px.call_ev, Px.fcall_ev, Px.isi_ev, Px.bits_ev, Px.dget_ev, Px.din_ev, Px.rev_ev, Px.orT_ev, Px.qnone_lo, Px.qsome_lo, Px.sl_ev, Px.slL_f, Px.slT_f, Px.lenSeq_ev, Px.neg_ev, Px.add_f, Px.sub_f, Px.and_f, Px.or_f, Px.lt_f, Px.le_f, Px.gt_f, Px.ge_f, Px.eq_f, Px.ne_f, Px.flatQ_i, Px.flatQ_s, Px.flatQ_b, Px.isN_f, Px.notN_f, Px.ix_list, Px.ix_tuple, Px.len_f, Px.lenT_f, Px.tup_f, Px.tupT_f, Px.lst_f, Px.lstT_f, Px.max_f, Px.min_f, Px.int_f, Px.itList_ev, Px.itTup_ev, Px.itEnumT_ev, Px.itRng1_ev, Px.itVals_ev, Px.name_ev, Px.gtup_ev, Px.glst_ev, Px.stN_nil, Px.stN_cons, Px.seqK_nx, Px.seqK_rt, Px.seqK_rf, Px.seqK_bk, Px.seqK_ct, Px.seq_run, Px.next_run, Px.set_run, Px.setF_run, Px.asg_run, Px.ret_run, Px.retF_run, Px.ifS_run, Px.drop_run, Px.newK_run, Px.par2F_run, Px.forS_run, Px.whileS_run, Px.turnK_nx, Px.turnK_ct, Px.turnK_bk, Px.turnK_rt, Px.turnK_rf, Px.for_nil, Px.lcA_nil, Option.bind_some, List.length_cons, List.length_nil, List.length_map, if_true, reduceCtorEq, List.replicate_succ, List.replicate_zero, Nat.reduceAdd, Nat.reduceSub, Nat.reduceLeDiff, -Px.ix_tuple, -Px.ix_list, x1, x2, c1, k1, c2, c3, draw_int e, List.length_cons, List.length_nil, Nat.reduceAdd, Nat.reduceLeDiff, if_true, c5, List.cons_append, List.nil_append, ey]
  · have pl : P = (q0 :: qr).map partD := by rw [hP]; rfl
    have lq : (q0 :: qr).length ≤ 100 := by omega
    simp only [List.mem_cons, List.not_mem_nil, or_false] at hy
    rcases hy with rfl | rfl | rfl | rfl | rfl | rfl | rfl | rfl
    · exact .inl ⟨(q0 :: qr) ++ [q0], _, by rw [pl, List.map_append]; rfl, by rw [List.length_append, List.length_singleton]; omega⟩
    · exact .inl ⟨(q0.1, -1) :: qr, _, rfl, lq⟩
    · exact .inl ⟨q0 :: qr, _, by rw [pl], lq⟩
    · exact .inr rfl
    · exact .inl ⟨q0 :: qr, _, by rw [pl], lq⟩
    · exact .inr rfl
    · exact .inl ⟨[], _, rfl, by decide⟩
    · exact .inl ⟨q0 :: qr, _, by rw [pl], lq⟩
  · have pl : P = (q0 :: qr).map partD := by rw [hP]; rfl
    have hpart : ∀ (n : Nat), ∀ p ∈ P, Fine (n + 1) 62 p := fun n p hp => by
      rw [pl] at hp
      obtain ⟨q, hq, e⟩ := List.mem_map.mp hp
      rw [← e]
      exact fine_part (W.nm q hq).1 (by have := (W.nm q hq).2; omega)
    have hPl : P.length ≤ 5 := by rw [pl, List.length_map]; exact hql
    have fP : ∀ n, Fine (n + 2) 400 (.tuple P) := fun n => by rw [pl]; exact web_places W n
    have hFl : F.length ≤ 60 := by rw [hF, List.length_map]; exact hfl
    have hfire : ∀ n, ∀ d ∈ F, Fine (n + 3) 1264 d := fun n => by rw [hF]; exact web_fires W n
    have fF : ∀ n, Fine (n + 4) 100000 (.tuple F) := fun n => by rw [hF]; exact web_firings W n
    have fL : ∀ n, Fine (n + 4) 100000 (.list F) := fun n => (fine_lstM (m := 60) hFl (by decide) (hfire n)).le (by decide)
    have more : ∀ (n : Nat) (o : PyData), Fine (n + 3) 1264 o → Fine (n + 4) 100000 (.tuple (F ++ [o])) := fun n o ho => (fine_tupM (m := 61) (by rw [List.length_append, List.length_singleton]; omega) (by decide) fun d hd => by
      rcases List.mem_append.mp hd with hd | hd
      · exact hfire n d hd
      · rw [List.mem_singleton.mp hd]; exact ho).le (by decide)
    have pair : ∀ a b : PyData, Fine 9 100000 a → Fine 9 100000 b → Fine 10 220000 (.tuple [a, b]) := fun a b ha hb => (fine_pair ha hb).le (by decide)
    have e0 : ∀ n, Fine (n + 1) 0 (.tuple []) := fun n => (fine_tup (n := n) (c := 0) (ds := []) (by decide) fun d hd => nomatch hd).le (by decide)
    simp only [List.mem_cons, List.not_mem_nil, or_false] at hy
    rcases hy with rfl | rfl | rfl | rfl | rfl | rfl | rfl | rfl
    · refine pair _ _ ((fine_tupM (n := 8) (c := 62) (m := 6) (by rw [List.length_append, List.length_singleton]; omega) (by decide) fun d hd => ?_).le (by decide)) (fF 5)
      rcases List.mem_append.mp hd with hd | hd
      · exact hpart 7 d hd
      · rw [List.mem_singleton.mp hd]; exact hpart 7 _ (by rw [hP]; exact List.mem_cons_self)
    · refine pair _ _ ((fine_parts (n := 7) (m := 5) (qs := (q0.1, -1) :: qr) (by decide) hql fun q hq => ?_).le (by decide)) (fF 5)
      rcases List.mem_cons.mp hq with e | hq
      · rw [e]; exact ⟨(W.nm q0 List.mem_cons_self).1, show (1 : Nat) ≤ 1000000000 by decide⟩
      · exact ⟨(W.nm q (List.mem_cons_of_mem _ hq)).1, by have := (W.nm q (List.mem_cons_of_mem _ hq)).2; omega⟩
    · exact pair _ _ ((fP 7).le (by decide)) (more 5 _ (fine_odd 5))
    · exact (fine_tup (n := 9) (c := 400) (ds := [.tuple P]) (show 1 ≤ 1000 by decide) fun d hd => by rw [List.mem_singleton.mp hd]; exact fP 7).le (show 1 * 401 ≤ 220000 by decide)
    · exact pair _ _ ((fP 7).le (by decide)) (fL 5)
    · exact fine_none.le (by decide)
    · exact pair _ _ ((e0 8).le (by decide)) (fF 5)
    · exact pair _ _ ((fP 7).le (by decide)) (more 5 _ ((e0 7).le (by decide)))
end Nt

set_option Elab.async false
set_option linter.all false
set_option autoImplicit false
set_option maxRecDepth 100000
set_option maxHeartbeats 4000000
/-! What is drawn beside the nets: stock. -/
namespace Nt
open PySem PySem.Spec PyProof.Rows L2 Lw Px
def Sm (x : PyData) : Prop := (∃ i : Int, x = .int i ∧ i.natAbs ≤ 100) ∨ x = .bool true ∨ x = .str "1"
def Stk (st : PyData) : Prop := (∃ ds : List PyData, st = .tuple ds ∧ ds.length ≤ 11 ∧ ∀ x ∈ ds, Sm x) ∨ (∃ ds : List PyData, st = .list ds) ∨ st = .none ∨ st = .int 7
theorem fine_sm {n : Nat} {x : PyData} (h : Sm x) : Fine n 30 x := by
  rcases h with ⟨i, rfl, hi⟩ | rfl | rfl
  · exact fine_int (by omega)
  · exact fine_bool.le (by decide)
  · exact fine_str (by decide +kernel) (by decide)
abbrev stLc (ps : List PyData) (a : AE) : Option (List PyData × AE) := lcA (Xg.name 3) Xt.yes (Xe.callM f_Ldraw 0 (Xa.cons (Xe.int 9) Xa.nil)) [3] ps a
theorem stock_lc {n : Nat} (w : AV) : ∀ (ps : List PyData) (bs : List PyData), PurseOk (n + ps.length) bs → ∃ (is : List Int) (bs' : List PyData), stLc ps [some (.lst true bs), some w, none, none, none, none, none] = some (is.map .int, [some (.lst true bs'), some w, none, none, none, none, none]) ∧ is.length = ps.length ∧ (∀ i ∈ is, i.natAbs ≤ 100) ∧ PurseOk n bs'
  | [], bs, h => ⟨[], bs, rfl, rfl, fun i hi => (nomatch hi), h⟩
  | p :: ps, bs, h => by
    obtain ⟨d, bs1, e, h0, h1, hp⟩ := draw_is (n := n + ps.length) (h.less (by rw [List.length_cons]; omega)) (m := 9) (by decide) (by decide)
    obtain ⟨is, bs2, e2, l2, m2, p2⟩ := stock_lc w ps bs1 hp
    refine ⟨d :: is, bs2, ?_, congrArg (· + 1) l2, fun i hi => ?_, p2⟩
    · unfold stLc at e2 ⊢
      rw [lcA_cons]
      simp only [Px.gt_zero, Px.gt_succ, Px.st_zero, Px.st_succ, Px.wp_nil, Px.wp_cons, Px.fz_nil, Px.fz_lst, Px.fz_dat, Px.fz_dct, Px.fz_seq, Px.fz_none, Px.tl_nil, Px.tl_cons, Px.ent_no, Px.ent_own, Px.ent_seq, Px.argN_no, Px.argN_own, Px.argN_seq, Px.endO_rt, Px.endO_nx, Px.endO_rf, Px.endO_srt, Px.endO_srf, Px.endO_ort, Px.endO_onx, Px.int_ev, Px.str_ev, Px.bl_ev, Px.non_ev, Px.var_ev, Px.varE_zd, Px.varE_zl, Px.consV_some, Px.varE_s, Px.op_ev, Px.nil_ev, Px.cons_ev, Px.tup_ev, Px.lst_ev, Px.cb_ev, Px.asB_b, Px.andV_ev, Px.orV_ev, Px.notV_ev, Px.of_ev, Px.and_ev, Px.or_ev, Px.not_ev, Px.yes_ev, Px.ttmp_ev, Px.ifE_ev, Px.tmp_ev, Px.flat_int, Px.flat_str, Px.flat_bool, Px.flat_none, Px.asL_l, Px.asT_t, Px.asI_i, Px.asK_d, Px.ofF_ev, Px.flst_ev, Px.lc_ev, Px.asD_d, Px.asF_f, Px.call_ev, Px.fcall_ev, Px.isi_ev, Px.bits_ev, Px.dget_ev, Px.din_ev, Px.rev_ev, Px.orT_ev, Px.qnone_lo, Px.qsome_lo, Px.sl_ev, Px.slL_f, Px.slT_f, Px.lenSeq_ev, Px.neg_ev, Px.add_f, Px.sub_f, Px.and_f, Px.or_f, Px.lt_f, Px.le_f, Px.gt_f, Px.ge_f, Px.eq_f, Px.ne_f, Px.flatQ_i, Px.flatQ_s, Px.flatQ_b, Px.isN_f, Px.notN_f, Px.ix_list, Px.ix_tuple, Px.len_f, Px.lenT_f, Px.tup_f, Px.tupT_f, Px.lst_f, Px.lstT_f, Px.max_f, Px.min_f, Px.int_f, Px.itList_ev, Px.itTup_ev, Px.itEnumT_ev, Px.itRng1_ev, Px.itVals_ev, Px.name_ev, Px.gtup_ev, Px.glst_ev, Px.stN_nil, Px.stN_cons, Px.seqK_nx, Px.seqK_rt, Px.seqK_rf, Px.seqK_bk, Px.seqK_ct, Px.seq_run, Px.next_run, Px.set_run, Px.setF_run, Px.asg_run, Px.ret_run, Px.retF_run, Px.ifS_run, Px.drop_run, Px.newK_run, Px.par2F_run, Px.forS_run, Px.whileS_run, Px.turnK_nx, Px.turnK_ct, Px.turnK_bk, Px.turnK_rt, Px.turnK_rf, Px.for_nil, Px.lcA_nil, Option.bind_some, List.length_cons, List.length_nil, List.length_map, if_true, reduceCtorEq, List.replicate_succ, List.replicate_zero, Nat.reduceAdd, Nat.reduceSub, Nat.reduceLeDiff, draw_int e, e2]
      rfl
    · rcases List.mem_cons.mp hi with rfl | hi
      · omega
      · exact m2 i hi
theorem stock_is {n : Nat} {qs : List (Str × Int)} {fs : List Fire} {bs : List PyData} (h : PurseOk (n + 8) bs) (W : Web qs fs) :
    ∃ (st : PyData) (bs' : List PyData), f_Lstock (.own bs) [netD qs fs] = some (.dat st, bs') ∧ Stk st ∧ Fine 10 1000 st ∧ PurseOk n bs' := by
  obtain ⟨is, bs1, e1, l1, m1, p1⟩ := stock_lc (n := n + 3) (.dat (netD qs fs)) (qs.map partD) bs (h.less (by rw [List.length_map]; have := W.le; omega))
  rw [List.length_map] at l1
  have il : is.length ≤ 5 := by rw [l1]; exact W.le
  have ip : 0 < (is.length : Int) := by have := W.ne; omega
  obtain ⟨a, bs2, e2, a0, a1, p2⟩ := draw_is (n := n + 2) (p1.less (by omega)) (m := (is.length : Int)) ip (by omega)
  obtain ⟨k, bs3, e3, k0, k1, p3⟩ := draw_is (n := n) (p2.less (by omega)) (m := 9) (by decide) (by decide)
  obtain ⟨T, hT⟩ : ∃ T : List PyData, T = is.map .int := ⟨_, rfl⟩
  have Tl : T.length = is.length := by rw [hT, List.length_map]
  have Tm : ∀ x ∈ T, Sm x := fun x hx => by
    rw [hT] at hx
    obtain ⟨i, hi, e⟩ := List.mem_map.mp hx
    exact .inl ⟨i, e.symm, m1 i hi⟩
  let bent : PyData → List PyData := fun o => (Lw.cutD T none (some a) ++ [o]) ++ Lw.cutD T (some (a + 1)) none
  have cl := @cut_sub T
  have bl : ∀ o, (bent o).length ≤ 11 := fun o => by
    have h1 := (@cut_sub T none (some a)).2
    have h2 := (@cut_sub T (some (a + 1)) none).2
    show ((Lw.cutD T none (some a) ++ [o]) ++ Lw.cutD T (some (a + 1)) none).length ≤ 11
    rw [List.length_append, List.length_append, List.length_singleton]
    omega
  have bm : ∀ o, Sm o → ∀ x ∈ bent o, Sm x := fun o ho x hx => by
    rcases List.mem_append.mp hx with hx | hx
    · rcases List.mem_append.mp hx with hx | hx
      · exact Tm x ((@cut_sub T none (some a)).1 x hx)
      · rw [List.mem_singleton.mp hx]; exact ho
    · exact Tm x ((@cut_sub T (some (a + 1)) none).1 x hx)
  have c1 : oCatT.f (.tuple T) (.tuple [.int 0]) = some (.tuple (T ++ [.int 0])) := catT_f (by rw [List.length_singleton]; omega)
  have c2 : ∀ o : PyData, oCatT.f (.tuple (Lw.cutD T none (some a))) (.tuple [o]) = some (.tuple (Lw.cutD T none (some a) ++ [o])) := fun o => catT_f (by
    have h1 := (@cut_sub T none (some a)).2
    rw [List.length_singleton]; omega)
  have c3 : ∀ o : PyData, oCatT.f (.tuple (Lw.cutD T none (some a) ++ [o])) (.tuple (Lw.cutD T (some (a + 1)) none)) = some (.tuple (bent o)) := fun o => catT_f (by
    have h1 := (@cut_sub T none (some a)).2
    have h2 := (@cut_sub T (some (a + 1)) none).2
    rw [List.length_append, List.length_singleton]; omega)
  have c5 : ∀ a b : List PyData, a.length ≤ 5 → b.length ≤ 5 → oCat.f (.list a) (.list b) = some (.list (a ++ b)) := fun a b ha hb => cat_f (by omega)
  have lt : T.length ≤ 100000 := by omega
  have q0 : oIx.f (netD qs fs) (.int 0) = some (.tuple (qs.map partD)) := by
    unfold netD
    rw [Px.ix_tuple]
    exact atI_zero _ _
  have ql : qs.length ≤ 50000 := by have := W.le; omega
  unfold stLc at e1
  rw [← hT] at e1
  have done : ∀ y : PyData, (if k < 8 then (oIx.f (.list [.tuple (Lw.cutD T (some 1) none), .tuple (T ++ [.int 0]), .tuple (bent (.int (-1))), .tuple (bent (.bool true)), .tuple (bent (.str "1")), .list T, .none, .int 7]) (.int k)) = some y else y = .tuple T) → f_Lstock (.own bs) [netD qs fs] = some (.dat y, bs3) := by
    intro y hy
    have e2' : f_Ldraw (.own bs1) [.int (T.length : Nat)] = some (.dat (.int a), bs2) := by rw [Tl]; exact e2
    have E2 : ∀ r : AE, (Xe.callM f_Ldraw 0 (Xa.cons (Xe.cb bLen (Xa.cons (Xe.var 2) Xa.nil)) Xa.nil)).ev (some (.lst true bs1) :: some (.dat (netD qs fs)) :: some (.dat (.tuple T)) :: r) = some (.int a, some (.lst true bs2) :: some (.dat (netD qs fs)) :: some (.dat (.tuple T)) :: r) := fun r =>
      callM_ev (i := 0) (b0 := true) (b := true) (ds := bs1) (bs := bs1) (a' := some (.lst true bs1) :: some (.dat (netD qs fs)) :: some (.dat (.tuple T)) :: r) (as := [.int (T.length : Nat)]) rfl (by simp only [Px.gt_zero, Px.gt_succ, Px.st_zero, Px.st_succ, Px.wp_nil, Px.wp_cons, Px.fz_nil, Px.fz_lst, Px.fz_dat, Px.fz_dct, Px.fz_seq, Px.fz_none, Px.tl_nil, Px.tl_cons, Px.ent_no, Px.ent_own, Px.ent_seq, Px.argN_no, Px.argN_own, Px.argN_seq, Px.endO_rt, Px.endO_nx, Px.endO_rf, Px.endO_srt, Px.endO_srf, Px.endO_ort, Px.endO_onx, Px.int_ev, Px.str_ev, Px.bl_ev, Px.non_ev, Px.var_ev, Px.varE_zd, Px.varE_zl, Px.consV_some, Px.varE_s, Px.op_ev, Px.nil_ev, Px.cons_ev, Px.tup_ev, Px.lst_ev, Px.cb_ev, Px.asB_b, Px.andV_ev, Px.orV_ev, Px.notV_ev, Px.of_ev, Px.and_ev, Px.or_ev, Px.not_ev, Px.yes_ev, Px.ttmp_ev, Px.ifE_ev, Px.tmp_ev, Px.flat_int, Px.flat_str, Px.flat_bool, Px.flat_none, Px.asL_l, Px.asT_t, Px.asI_i, Px.asK_d, Px.ofF_ev, Px.flst_ev, Px.lc_ev, Px.asD_d, Px.asF_f, Px.call_ev, Px.fcall_ev, Px.isi_ev, Px.bits_ev, Px.dget_ev, Px.din_ev, Px.rev_ev, Px.orT_ev, Px.qnone_lo, Px.qsome_lo, Px.sl_ev, Px.slL_f, Px.slT_f, Px.lenSeq_ev, Px.neg_ev, Px.add_f, Px.sub_f, Px.and_f, Px.or_f, Px.lt_f, Px.le_f, Px.gt_f, Px.ge_f, Px.eq_f, Px.ne_f, Px.flatQ_i, Px.flatQ_s, Px.flatQ_b, Px.isN_f, Px.notN_f, Px.ix_list, Px.ix_tuple, Px.len_f, Px.lenT_f, Px.tup_f, Px.tupT_f, Px.lst_f, Px.lstT_f, Px.max_f, Px.min_f, Px.int_f, Px.itList_ev, Px.itTup_ev, Px.itEnumT_ev, Px.itRng1_ev, Px.itVals_ev, Px.name_ev, Px.gtup_ev, Px.glst_ev, Px.stN_nil, Px.stN_cons, Px.seqK_nx, Px.seqK_rt, Px.seqK_rf, Px.seqK_bk, Px.seqK_ct, Px.seq_run, Px.next_run, Px.set_run, Px.setF_run, Px.asg_run, Px.ret_run, Px.retF_run, Px.ifS_run, Px.drop_run, Px.newK_run, Px.par2F_run, Px.forS_run, Px.whileS_run, Px.turnK_nx, Px.turnK_ct, Px.turnK_bk, Px.turnK_rt, Px.turnK_rf, Px.for_nil, Px.lcA_nil, Option.bind_some, List.length_cons, List.length_nil, List.length_map, if_true, reduceCtorEq, List.replicate_succ, List.replicate_zero, Nat.reduceAdd, Nat.reduceSub, Nat.reduceLeDiff]) rfl e2'
    unfold f_Lstock
    rw [fnOf_eq (by rfl)]
    unfold b_Lstock
    simp only [Px.gt_zero, Px.gt_succ, Px.st_zero, Px.st_succ, Px.wp_nil, Px.wp_cons, Px.fz_nil, Px.fz_lst, Px.fz_dat, Px.fz_dct, Px.fz_seq, Px.fz_none, Px.tl_nil, Px.tl_cons, Px.ent_no, Px.ent_own, Px.ent_seq, Px.argN_no, Px.argN_own, Px.argN_seq, Px.endO_rt, Px.endO_nx, Px.endO_rf, Px.endO_srt, Px.endO_srf, Px.endO_ort, Px.endO_onx, Px.int_ev, Px.str_ev, Px.bl_ev, Px.non_ev, Px.var_ev, Px.varE_zd, Px.varE_zl, Px.consV_some, Px.varE_s, Px.op_ev, Px.nil_ev, Px.cons_ev, Px.tup_ev, Px.lst_ev, Px.cb_ev, Px.asB_b, Px.andV_ev, Px.orV_ev, Px.notV_ev, Px.of_ev, Px.and_ev, Px.or_ev, Px.not_ev, Px.yes_ev, Px.ttmp_ev, Px.ifE_ev, Px.tmp_ev, Px.flat_int, Px.flat_str, Px.flat_bool, Px.flat_none, Px.asL_l, Px.asT_t, Px.asI_i, Px.asK_d, Px.ofF_ev, Px.flst_ev, Px.lc_ev, Px.asD_d, Px.asF_f, Px.call_ev, Px.fcall_ev, Px.isi_ev, Px.bits_ev, Px.dget_ev, Px.din_ev, Px.rev_ev, Px.orT_ev, Px.qnone_lo, Px.qsome_lo, Px.sl_ev, Px.slL_f, Px.slT_f, Px.lenSeq_ev, Px.neg_ev, Px.add_f, Px.sub_f, Px.and_f, Px.or_f, Px.lt_f, Px.le_f, Px.gt_f, Px.ge_f, Px.eq_f, Px.ne_f, Px.flatQ_i, Px.flatQ_s, Px.flatQ_b, Px.isN_f, Px.notN_f, Px.ix_list, Px.ix_tuple, Px.len_f, Px.lenT_f, Px.tup_f, Px.tupT_f, Px.lst_f, Px.lstT_f, Px.max_f, Px.min_f, Px.int_f, Px.itList_ev, Px.itTup_ev, Px.itEnumT_ev, Px.itRng1_ev, Px.itVals_ev, Px.name_ev, Px.gtup_ev, Px.glst_ev, Px.stN_nil, Px.stN_cons, Px.seqK_nx, Px.seqK_rt, Px.seqK_rf, Px.seqK_bk, Px.seqK_ct, Px.seq_run, Px.next_run, Px.set_run, Px.setF_run, Px.asg_run, Px.ret_run, Px.retF_run, Px.ifS_run, Px.drop_run, Px.newK_run, Px.par2F_run, Px.forS_run, Px.whileS_run, Px.turnK_nx, Px.turnK_ct, Px.turnK_bk, Px.turnK_rt, Px.turnK_rf, Px.for_nil, Px.lcA_nil, Option.bind_some, List.length_cons, List.length_nil, List.length_map, if_true, reduceCtorEq, List.replicate_succ, List.replicate_zero, Nat.reduceAdd, Nat.reduceSub, Nat.reduceLeDiff, -Px.ix_tuple, -Px.ix_list, q0, if_pos ql, e1, lt, if_true, E2, draw_int e3, c1, c2, c3, c5, List.length_cons, List.length_nil, Nat.reduceAdd, Nat.reduceLeDiff, List.cons_append, List.nil_append]
    by_cases hk : k < 8
    · rw [if_pos hk] at hy
      rw [if_pos (decide_eq_true hk), hy]
      rfl
    · rw [if_neg hk] at hy
      rw [if_neg (by rw [decide_eq_true_eq]; exact hk), hy]
      rfl
  have fT : ∀ (m : Nat) (ds : List PyData), m ≤ 11 → ds.length ≤ m → (∀ x ∈ ds, Sm x) → Fine 10 1000 (.tuple ds) := fun m ds hm hl hs => (fine_tupM (n := 9) (c := 30) (m := 11) (by omega) (by decide) fun d hd => fine_sm (hs d hd)).le (by decide)
  have sk : ∀ ds : List PyData, ds.length ≤ 11 → (∀ x ∈ ds, Sm x) → Stk (.tuple ds) := fun ds h1 h2 => .inl ⟨ds, rfl, h1, h2⟩
  by_cases hk : k < 8
  · obtain ⟨y, hy, ey⟩ := atI_in (ds := [.tuple (Lw.cutD T (some 1) none), .tuple (T ++ [.int 0]), .tuple (bent (.int (-1))), .tuple (bent (.bool true)), .tuple (bent (.str "1")), .list T, .none, .int 7]) k0 (d := k) (by show k < 8; exact hk)
    refine ⟨y, bs3, done y (by rw [if_pos hk]; exact ey), ?_, ?_, p3⟩
    all_goals simp only [List.mem_cons, List.not_mem_nil, or_false] at hy
    · rcases hy with rfl | rfl | rfl | rfl | rfl | rfl | rfl | rfl
      · exact sk _ (by have := (@cut_sub T (some 1) none).2; omega) fun x hx => Tm x ((@cut_sub T (some 1) none).1 x hx)
      · exact sk _ (by rw [List.length_append, List.length_singleton]; omega) fun x hx => by
          rcases List.mem_append.mp hx with hx | hx
          · exact Tm x hx
          · rw [List.mem_singleton.mp hx]; exact .inl ⟨0, rfl, by decide⟩
      · exact sk _ (bl _) (bm _ (.inl ⟨-1, rfl, by decide⟩))
      · exact sk _ (bl _) (bm _ (.inr (.inl rfl)))
      · exact sk _ (bl _) (bm _ (.inr (.inr rfl)))
      · exact .inr (.inl ⟨T, rfl⟩)
      · exact .inr (.inr (.inl rfl))
      · exact .inr (.inr (.inr rfl))
    · rcases hy with rfl | rfl | rfl | rfl | rfl | rfl | rfl | rfl
      · exact fT 5 _ (by decide) (by have := (@cut_sub T (some 1) none).2; omega) fun x hx => Tm x ((@cut_sub T (some 1) none).1 x hx)
      · exact fT 6 _ (by decide) (by rw [List.length_append, List.length_singleton]; omega) fun x hx => by
          rcases List.mem_append.mp hx with hx | hx
          · exact Tm x hx
          · rw [List.mem_singleton.mp hx]; exact .inl ⟨0, rfl, by decide⟩
      · exact fT 11 _ (by decide) (bl _) (bm _ (.inl ⟨-1, rfl, by decide⟩))
      · exact fT 11 _ (by decide) (bl _) (bm _ (.inr (.inl rfl)))
      · exact fT 11 _ (by decide) (bl _) (bm _ (.inr (.inr rfl)))
      · exact (fine_lstM (n := 9) (c := 30) (m := 5) (by omega) (by decide) fun d hd => fine_sm (Tm d hd)).le (by decide)
      · exact fine_none.le (by decide)
      · exact (fine_int (by decide)).le (by decide)
  · exact ⟨.tuple T, bs3, done _ (by rw [if_neg hk]), sk T (by omega) Tm, fT 5 T (by decide) (by omega) Tm, p3⟩
end Nt

set_option Elab.async false
set_option linter.all false
set_option autoImplicit false
set_option maxRecDepth 100000
set_option maxHeartbeats 4000000
/-! What heap_flaw tells; check_net, check_heap. -/
namespace Nt
open PySem PySem.Spec PyProof.Rows L2 Lw Px
theorem whole_is {x : PyData} (h : Sm x) : ∃ b : Bool, f_is_whole .no [x] = some (.dat (.bool b), []) ∧ (b = true → ∃ i : Int, x = .int i) := by
  rcases h with ⟨i, rfl, _⟩ | rfl | rfl
  · exact ⟨true, rfl, fun _ => ⟨i, rfl⟩⟩
  · exact ⟨false, rfl, fun z => by cases z⟩
  · exact ⟨false, rfl, fun z => by cases z⟩
theorem tup_is (ds : List PyData) (n : Int) : f_is_tuple_of .no [.tuple ds, .int n] = some (.dat (.bool (decide ((ds.length : Int) = n))), []) := by
  unfold f_is_tuple_of
  rw [fnOf_eq (by rfl)]
  unfold b_is_tuple_of
  simp only [Px.gt_zero, Px.gt_succ, Px.st_zero, Px.st_succ, Px.wp_nil, Px.wp_cons, Px.fz_nil, Px.fz_lst, Px.fz_dat, Px.fz_dct, Px.fz_seq, Px.fz_none, Px.tl_nil, Px.tl_cons, Px.ent_no, Px.ent_own, Px.ent_seq, Px.argN_no, Px.argN_own, Px.argN_seq, Px.endO_rt, Px.endO_nx, Px.endO_rf, Px.endO_srt, Px.endO_srf, Px.endO_ort, Px.endO_onx, Px.int_ev, Px.str_ev, Px.bl_ev, Px.non_ev, Px.var_ev, Px.varE_zd, Px.varE_zl, Px.consV_some, Px.varE_s, Px.op_ev, Px.nil_ev, Px.cons_ev, Px.tup_ev, Px.lst_ev, Px.cb_ev, Px.asB_b, Px.andV_ev, Px.orV_ev, Px.notV_ev, Px.of_ev, Px.and_ev, Px.or_ev, Px.not_ev, Px.yes_ev, Px.ttmp_ev, Px.ifE_ev, Px.tmp_ev, Px.flat_int, Px.flat_str, Px.flat_bool, Px.flat_none, Px.asL_l, Px.asT_t, Px.asI_i, Px.asK_d, Px.ofF_ev, Px.flst_ev, Px.lc_ev, Px.asD_d, Px.asF_f, Px.call_ev, Px.fcall_ev, Px.isi_ev, Px.bits_ev, Px.dget_ev, Px.din_ev, Px.rev_ev, Px.orT_ev, Px.qnone_lo, Px.qsome_lo, Px.sl_ev, Px.slL_f, Px.slT_f, Px.lenSeq_ev, Px.neg_ev, Px.add_f, Px.sub_f, Px.and_f, Px.or_f, Px.lt_f, Px.le_f, Px.gt_f, Px.ge_f, Px.eq_f, Px.ne_f, Px.flatQ_i, Px.flatQ_s, Px.flatQ_b, Px.isN_f, Px.notN_f, Px.ix_list, Px.ix_tuple, Px.len_f, Px.lenT_f, Px.tup_f, Px.tupT_f, Px.lst_f, Px.lstT_f, Px.max_f, Px.min_f, Px.int_f, Px.itList_ev, Px.itTup_ev, Px.itEnumT_ev, Px.itRng1_ev, Px.itVals_ev, Px.name_ev, Px.gtup_ev, Px.glst_ev, Px.stN_nil, Px.stN_cons, Px.seqK_nx, Px.seqK_rt, Px.seqK_rf, Px.seqK_bk, Px.seqK_ct, Px.seq_run, Px.next_run, Px.set_run, Px.setF_run, Px.asg_run, Px.ret_run, Px.retF_run, Px.ifS_run, Px.drop_run, Px.newK_run, Px.par2F_run, Px.forS_run, Px.whileS_run, Px.turnK_nx, Px.turnK_ct, Px.turnK_bk, Px.turnK_rt, Px.turnK_rf, Px.for_nil, Px.lcA_nil, Option.bind_some, List.length_cons, List.length_nil, List.length_map, if_true, reduceCtorEq, List.replicate_succ, List.replicate_zero, Nat.reduceAdd, Nat.reduceSub, Nat.reduceLeDiff, show isiF (.tuple ds) "tuple" = some true from rfl, if_true]
theorem tup_no {d : PyData} (n : Int) (h : isiF d "tuple" = some false) : f_is_tuple_of .no [d, .int n] = some (.dat (.bool false), []) := by
  unfold f_is_tuple_of
  rw [fnOf_eq (by rfl)]
  unfold b_is_tuple_of
  simp only [Px.gt_zero, Px.gt_succ, Px.st_zero, Px.st_succ, Px.wp_nil, Px.wp_cons, Px.fz_nil, Px.fz_lst, Px.fz_dat, Px.fz_dct, Px.fz_seq, Px.fz_none, Px.tl_nil, Px.tl_cons, Px.ent_no, Px.ent_own, Px.ent_seq, Px.argN_no, Px.argN_own, Px.argN_seq, Px.endO_rt, Px.endO_nx, Px.endO_rf, Px.endO_srt, Px.endO_srf, Px.endO_ort, Px.endO_onx, Px.int_ev, Px.str_ev, Px.bl_ev, Px.non_ev, Px.var_ev, Px.varE_zd, Px.varE_zl, Px.consV_some, Px.varE_s, Px.op_ev, Px.nil_ev, Px.cons_ev, Px.tup_ev, Px.lst_ev, Px.cb_ev, Px.asB_b, Px.andV_ev, Px.orV_ev, Px.notV_ev, Px.of_ev, Px.and_ev, Px.or_ev, Px.not_ev, Px.yes_ev, Px.ttmp_ev, Px.ifE_ev, Px.tmp_ev, Px.flat_int, Px.flat_str, Px.flat_bool, Px.flat_none, Px.asL_l, Px.asT_t, Px.asI_i, Px.asK_d, Px.ofF_ev, Px.flst_ev, Px.lc_ev, Px.asD_d, Px.asF_f, Px.call_ev, Px.fcall_ev, Px.isi_ev, Px.bits_ev, Px.dget_ev, Px.din_ev, Px.rev_ev, Px.orT_ev, Px.qnone_lo, Px.qsome_lo, Px.sl_ev, Px.slL_f, Px.slT_f, Px.lenSeq_ev, Px.neg_ev, Px.add_f, Px.sub_f, Px.and_f, Px.or_f, Px.lt_f, Px.le_f, Px.gt_f, Px.ge_f, Px.eq_f, Px.ne_f, Px.flatQ_i, Px.flatQ_s, Px.flatQ_b, Px.isN_f, Px.notN_f, Px.ix_list, Px.ix_tuple, Px.len_f, Px.lenT_f, Px.tup_f, Px.tupT_f, Px.lst_f, Px.lstT_f, Px.max_f, Px.min_f, Px.int_f, Px.itList_ev, Px.itTup_ev, Px.itEnumT_ev, Px.itRng1_ev, Px.itVals_ev, Px.name_ev, Px.gtup_ev, Px.glst_ev, Px.stN_nil, Px.stN_cons, Px.seqK_nx, Px.seqK_rt, Px.seqK_rf, Px.seqK_bk, Px.seqK_ct, Px.seq_run, Px.next_run, Px.set_run, Px.setF_run, Px.asg_run, Px.ret_run, Px.retF_run, Px.ifS_run, Px.drop_run, Px.newK_run, Px.par2F_run, Px.forS_run, Px.whileS_run, Px.turnK_nx, Px.turnK_ct, Px.turnK_bk, Px.turnK_rt, Px.turnK_rf, Px.for_nil, Px.lcA_nil, Option.bind_some, List.length_cons, List.length_nil, List.length_map, if_true, reduceCtorEq, List.replicate_succ, List.replicate_zero, Nat.reduceAdd, Nat.reduceSub, Nat.reduceLeDiff, h, Bool.false_eq_true, if_false]
abbrev flawBody : Xs := Xs.ifS (Xt.or (Xt.not (Xt.of (Xe.call f_is_whole (Xa.cons (Xe.var 3) Xa.nil)))) (Xt.of (Xe.op oLt (Xe.var 3) (Xe.int 0)))) (Xs.ret (Xe.tup (Xa.cons (Xe.str "place") (Xa.cons (Xe.var 2) Xa.nil)))) Xs.next
theorem flaw_loop (one st : PyData) : ∀ (ds : List PyData) (k : Int), (∀ x ∈ ds, Sm x) →
    (∃ (j : Int) (a : AE), forA (Xg.tup [2, 3]) flawBody [2, 3] (pairsD k ds) [some (.dat one), some (.dat st), none, none] = some (.rt (.tuple [.str "place", .int j]) a)) ∨
    (forA (Xg.tup [2, 3]) flawBody [2, 3] (pairsD k ds) [some (.dat one), some (.dat st), none, none] = some (.nx [some (.dat one), some (.dat st), none, none]) ∧ ∃ is : List Int, ds = is.map .int)
  | [], k, _ => .inr ⟨rfl, [], rfl⟩
  | d :: ds, k, h => by
    obtain ⟨b, hb, hi⟩ := whole_is (h d List.mem_cons_self)
    rw [pairsD_cons, for_cons]
    have lt2 : (2 : Nat) ≤ 100000 := by decide
    cases b with
    | false =>
      left
      refine ⟨k, [some (.dat one), some (.dat st), some (.dat (.int k)), some (.dat d)], ?_⟩
      simp only [Px.gt_zero, Px.gt_succ, Px.st_zero, Px.st_succ, Px.wp_nil, Px.wp_cons, Px.fz_nil, Px.fz_lst, Px.fz_dat, Px.fz_dct, Px.fz_seq, Px.fz_none, Px.tl_nil, Px.tl_cons, Px.ent_no, Px.ent_own, Px.ent_seq, Px.argN_no, Px.argN_own, Px.argN_seq, Px.endO_rt, Px.endO_nx, Px.endO_rf, Px.endO_srt, Px.endO_srf, Px.endO_ort, Px.endO_onx, Px.int_ev, Px.str_ev, Px.bl_ev, Px.non_ev, Px.var_ev, Px.varE_zd, Px.varE_zl, Px.consV_some, Px.varE_s, Px.op_ev, Px.nil_ev, Px.cons_ev, Px.tup_ev, Px.lst_ev, Px.cb_ev, Px.asB_b, Px.andV_ev, Px.orV_ev, Px.notV_ev, Px.of_ev, Px.and_ev, Px.or_ev, Px.not_ev, Px.yes_ev, Px.ttmp_ev, Px.ifE_ev, Px.tmp_ev, Px.flat_int, Px.flat_str, Px.flat_bool, Px.flat_none, Px.asL_l, Px.asT_t, Px.asI_i, Px.asK_d, Px.ofF_ev, Px.flst_ev, Px.lc_ev, Px.asD_d, Px.asF_f, Px.call_ev, Px.fcall_ev, Px.isi_ev, Px.bits_ev, Px.dget_ev, Px.din_ev, Px.rev_ev, Px.orT_ev, Px.qnone_lo, Px.qsome_lo, Px.sl_ev, Px.slL_f, Px.slT_f, Px.lenSeq_ev, Px.neg_ev, Px.add_f, Px.sub_f, Px.and_f, Px.or_f, Px.lt_f, Px.le_f, Px.gt_f, Px.ge_f, Px.eq_f, Px.ne_f, Px.flatQ_i, Px.flatQ_s, Px.flatQ_b, Px.isN_f, Px.notN_f, Px.ix_list, Px.ix_tuple, Px.len_f, Px.lenT_f, Px.tup_f, Px.tupT_f, Px.lst_f, Px.lstT_f, Px.max_f, Px.min_f, Px.int_f, Px.itList_ev, Px.itTup_ev, Px.itEnumT_ev, Px.itRng1_ev, Px.itVals_ev, Px.name_ev, Px.gtup_ev, Px.glst_ev, Px.stN_nil, Px.stN_cons, Px.seqK_nx, Px.seqK_rt, Px.seqK_rf, Px.seqK_bk, Px.seqK_ct, Px.seq_run, Px.next_run, Px.set_run, Px.setF_run, Px.asg_run, Px.ret_run, Px.retF_run, Px.ifS_run, Px.drop_run, Px.newK_run, Px.par2F_run, Px.forS_run, Px.whileS_run, Px.turnK_nx, Px.turnK_ct, Px.turnK_bk, Px.turnK_rt, Px.turnK_rf, Px.for_nil, Px.lcA_nil, Option.bind_some, List.length_cons, List.length_nil, List.length_map, if_true, reduceCtorEq, List.replicate_succ, List.replicate_zero, Nat.reduceAdd, Nat.reduceSub, Nat.reduceLeDiff, hb, Bool.not_false, if_true, List.length_cons, List.length_nil, Nat.reduceAdd, Nat.reduceLeDiff]
    | true =>
      obtain ⟨i, rfl⟩ := hi rfl
      by_cases hn : i < 0
      · left
        refine ⟨k, [some (.dat one), some (.dat st), some (.dat (.int k)), some (.dat (.int i))], ?_⟩
        simp only [Px.gt_zero, Px.gt_succ, Px.st_zero, Px.st_succ, Px.wp_nil, Px.wp_cons, Px.fz_nil, Px.fz_lst, Px.fz_dat, Px.fz_dct, Px.fz_seq, Px.fz_none, Px.tl_nil, Px.tl_cons, Px.ent_no, Px.ent_own, Px.ent_seq, Px.argN_no, Px.argN_own, Px.argN_seq, Px.endO_rt, Px.endO_nx, Px.endO_rf, Px.endO_srt, Px.endO_srf, Px.endO_ort, Px.endO_onx, Px.int_ev, Px.str_ev, Px.bl_ev, Px.non_ev, Px.var_ev, Px.varE_zd, Px.varE_zl, Px.consV_some, Px.varE_s, Px.op_ev, Px.nil_ev, Px.cons_ev, Px.tup_ev, Px.lst_ev, Px.cb_ev, Px.asB_b, Px.andV_ev, Px.orV_ev, Px.notV_ev, Px.of_ev, Px.and_ev, Px.or_ev, Px.not_ev, Px.yes_ev, Px.ttmp_ev, Px.ifE_ev, Px.tmp_ev, Px.flat_int, Px.flat_str, Px.flat_bool, Px.flat_none, Px.asL_l, Px.asT_t, Px.asI_i, Px.asK_d, Px.ofF_ev, Px.flst_ev, Px.lc_ev, Px.asD_d, Px.asF_f, Px.call_ev, Px.fcall_ev, Px.isi_ev, Px.bits_ev, Px.dget_ev, Px.din_ev, Px.rev_ev, Px.orT_ev, Px.qnone_lo, Px.qsome_lo, Px.sl_ev, Px.slL_f, Px.slT_f, Px.lenSeq_ev, Px.neg_ev, Px.add_f, Px.sub_f, Px.and_f, Px.or_f, Px.lt_f, Px.le_f, Px.gt_f, Px.ge_f, Px.eq_f, Px.ne_f, Px.flatQ_i, Px.flatQ_s, Px.flatQ_b, Px.isN_f, Px.notN_f, Px.ix_list, Px.ix_tuple, Px.len_f, Px.lenT_f, Px.tup_f, Px.tupT_f, Px.lst_f, Px.lstT_f, Px.max_f, Px.min_f, Px.int_f, Px.itList_ev, Px.itTup_ev, Px.itEnumT_ev, Px.itRng1_ev, Px.itVals_ev, Px.name_ev, Px.gtup_ev, Px.glst_ev, Px.stN_nil, Px.stN_cons, Px.seqK_nx, Px.seqK_rt, Px.seqK_rf, Px.seqK_bk, Px.seqK_ct, Px.seq_run, Px.next_run, Px.set_run, Px.setF_run, Px.asg_run, Px.ret_run, Px.retF_run, Px.ifS_run, Px.drop_run, Px.newK_run, Px.par2F_run, Px.forS_run, Px.whileS_run, Px.turnK_nx, Px.turnK_ct, Px.turnK_bk, Px.turnK_rt, Px.turnK_rf, Px.for_nil, Px.lcA_nil, Option.bind_some, List.length_cons, List.length_nil, List.length_map, if_true, reduceCtorEq, List.replicate_succ, List.replicate_zero, Nat.reduceAdd, Nat.reduceSub, Nat.reduceLeDiff, hb, Bool.not_true, Bool.false_eq_true, if_false, hn, decide_true, if_true, List.length_cons, List.length_nil, Nat.reduceAdd, Nat.reduceLeDiff]
      · rcases flaw_loop one st ds (k + 1) (fun x hx => h x (List.mem_cons_of_mem _ hx)) with ⟨j, a, e⟩ | ⟨e, is, rfl⟩
        · left
          refine ⟨j, a, ?_⟩
          simp only [Px.gt_zero, Px.gt_succ, Px.st_zero, Px.st_succ, Px.wp_nil, Px.wp_cons, Px.fz_nil, Px.fz_lst, Px.fz_dat, Px.fz_dct, Px.fz_seq, Px.fz_none, Px.tl_nil, Px.tl_cons, Px.ent_no, Px.ent_own, Px.ent_seq, Px.argN_no, Px.argN_own, Px.argN_seq, Px.endO_rt, Px.endO_nx, Px.endO_rf, Px.endO_srt, Px.endO_srf, Px.endO_ort, Px.endO_onx, Px.int_ev, Px.str_ev, Px.bl_ev, Px.non_ev, Px.var_ev, Px.varE_zd, Px.varE_zl, Px.consV_some, Px.varE_s, Px.op_ev, Px.nil_ev, Px.cons_ev, Px.tup_ev, Px.lst_ev, Px.cb_ev, Px.asB_b, Px.andV_ev, Px.orV_ev, Px.notV_ev, Px.of_ev, Px.and_ev, Px.or_ev, Px.not_ev, Px.yes_ev, Px.ttmp_ev, Px.ifE_ev, Px.tmp_ev, Px.flat_int, Px.flat_str, Px.flat_bool, Px.flat_none, Px.asL_l, Px.asT_t, Px.asI_i, Px.asK_d, Px.ofF_ev, Px.flst_ev, Px.lc_ev, Px.asD_d, Px.asF_f, Px.call_ev, Px.fcall_ev, Px.isi_ev, Px.bits_ev, Px.dget_ev, Px.din_ev, Px.rev_ev, Px.orT_ev, Px.qnone_lo, Px.qsome_lo, Px.sl_ev, Px.slL_f, Px.slT_f, Px.lenSeq_ev, Px.neg_ev, Px.add_f, Px.sub_f, Px.and_f, Px.or_f, Px.lt_f, Px.le_f, Px.gt_f, Px.ge_f, Px.eq_f, Px.ne_f, Px.flatQ_i, Px.flatQ_s, Px.flatQ_b, Px.isN_f, Px.notN_f, Px.ix_list, Px.ix_tuple, Px.len_f, Px.lenT_f, Px.tup_f, Px.tupT_f, Px.lst_f, Px.lstT_f, Px.max_f, Px.min_f, Px.int_f, Px.itList_ev, Px.itTup_ev, Px.itEnumT_ev, Px.itRng1_ev, Px.itVals_ev, Px.name_ev, Px.gtup_ev, Px.glst_ev, Px.stN_nil, Px.stN_cons, Px.seqK_nx, Px.seqK_rt, Px.seqK_rf, Px.seqK_bk, Px.seqK_ct, Px.seq_run, Px.next_run, Px.set_run, Px.setF_run, Px.asg_run, Px.ret_run, Px.retF_run, Px.ifS_run, Px.drop_run, Px.newK_run, Px.par2F_run, Px.forS_run, Px.whileS_run, Px.turnK_nx, Px.turnK_ct, Px.turnK_bk, Px.turnK_rt, Px.turnK_rf, Px.for_nil, Px.lcA_nil, Option.bind_some, List.length_cons, List.length_nil, List.length_map, if_true, reduceCtorEq, List.replicate_succ, List.replicate_zero, Nat.reduceAdd, Nat.reduceSub, Nat.reduceLeDiff, hb, Bool.not_true, Bool.false_eq_true, if_false, hn, decide_false, e]
        · right
          refine ⟨?_, i :: is, rfl⟩
          simp only [Px.gt_zero, Px.gt_succ, Px.st_zero, Px.st_succ, Px.wp_nil, Px.wp_cons, Px.fz_nil, Px.fz_lst, Px.fz_dat, Px.fz_dct, Px.fz_seq, Px.fz_none, Px.tl_nil, Px.tl_cons, Px.ent_no, Px.ent_own, Px.ent_seq, Px.argN_no, Px.argN_own, Px.argN_seq, Px.endO_rt, Px.endO_nx, Px.endO_rf, Px.endO_srt, Px.endO_srf, Px.endO_ort, Px.endO_onx, Px.int_ev, Px.str_ev, Px.bl_ev, Px.non_ev, Px.var_ev, Px.varE_zd, Px.varE_zl, Px.consV_some, Px.varE_s, Px.op_ev, Px.nil_ev, Px.cons_ev, Px.tup_ev, Px.lst_ev, Px.cb_ev, Px.asB_b, Px.andV_ev, Px.orV_ev, Px.notV_ev, Px.of_ev, Px.and_ev, Px.or_ev, Px.not_ev, Px.yes_ev, Px.ttmp_ev, Px.ifE_ev, Px.tmp_ev, Px.flat_int, Px.flat_str, Px.flat_bool, Px.flat_none, Px.asL_l, Px.asT_t, Px.asI_i, Px.asK_d, Px.ofF_ev, Px.flst_ev, Px.lc_ev, Px.asD_d, Px.asF_f, Px.call_ev, Px.fcall_ev, Px.isi_ev, Px.bits_ev, Px.dget_ev, Px.din_ev, Px.rev_ev, Px.orT_ev, Px.qnone_lo, Px.qsome_lo, Px.sl_ev, Px.slL_f, Px.slT_f, Px.lenSeq_ev, Px.neg_ev, Px.add_f, Px.sub_f, Px.and_f, Px.or_f, Px.lt_f, Px.le_f, Px.gt_f, Px.ge_f, Px.eq_f, Px.ne_f, Px.flatQ_i, Px.flatQ_s, Px.flatQ_b, Px.isN_f, Px.notN_f, Px.ix_list, Px.ix_tuple, Px.len_f, Px.lenT_f, Px.tup_f, Px.tupT_f, Px.lst_f, Px.lstT_f, Px.max_f, Px.min_f, Px.int_f, Px.itList_ev, Px.itTup_ev, Px.itEnumT_ev, Px.itRng1_ev, Px.itVals_ev, Px.name_ev, Px.gtup_ev, Px.glst_ev, Px.stN_nil, Px.stN_cons, Px.seqK_nx, Px.seqK_rt, Px.seqK_rf, Px.seqK_bk, Px.seqK_ct, Px.seq_run, Px.next_run, Px.set_run, Px.setF_run, Px.asg_run, Px.ret_run, Px.retF_run, Px.ifS_run, Px.drop_run, Px.newK_run, Px.par2F_run, Px.forS_run, Px.whileS_run, Px.turnK_nx, Px.turnK_ct, Px.turnK_bk, Px.turnK_rt, Px.turnK_rf, Px.for_nil, Px.lcA_nil, Option.bind_some, List.length_cons, List.length_nil, List.length_map, if_true, reduceCtorEq, List.replicate_succ, List.replicate_zero, Nat.reduceAdd, Nat.reduceSub, Nat.reduceLeDiff, hb, Bool.not_true, Bool.false_eq_true, if_false, hn, decide_false, e]
theorem gd_place (j : Int) : gd 1 (.tuple [.str "place", .int j]) = true := by
  have hs : okS "place" = true := by decide +kernel
  unfold gd
  simp only [List.all_cons, List.all_nil, Bool.and_true, Bool.and_eq_true, decide_eq_true_eq]
  exact ⟨by simp, by simpa [gd] using hs, by simp [gd]⟩
theorem gd_heap : gd 1 (.tuple [.str "heap"]) = true := by
  have hs : okS "heap" = true := by decide +kernel
  unfold gd
  simp only [List.all_cons, List.all_nil, Bool.and_true, Bool.and_eq_true, decide_eq_true_eq]
  exact ⟨by simp, by simpa [gd] using hs⟩
theorem flaw_is (P : List PyData) (x : PyData) {st : PyData} (h : Stk st) : ∃ hf : PyData, f_heap_flaw .no [.tuple [.tuple P, x], st] = some (.dat hf, []) ∧ gd 1 hf = true ∧ (hf = .none → ∃ is : List Int, st = .tuple (is.map .int) ∧ is.length = P.length) := by
  have x0 : oIx.f (.tuple [.tuple P, x]) (.int 0) = some (.tuple P) := by
    rw [Px.ix_tuple]
    exact atI_zero _ _
  have not : isiF st "tuple" = some false → ∃ hf : PyData, f_heap_flaw .no [.tuple [.tuple P, x], st] = some (.dat hf, []) ∧ gd 1 hf = true ∧ (hf = .none → ∃ is : List Int, st = .tuple (is.map .int) ∧ is.length = P.length) := fun hn => by
    refine ⟨.tuple [.str "heap"], ?_, gd_heap, fun z => by cases z⟩
    unfold f_heap_flaw
    rw [fnOf_eq (by rfl)]
    unfold b_heap_flaw
    simp only [Px.gt_zero, Px.gt_succ, Px.st_zero, Px.st_succ, Px.wp_nil, Px.wp_cons, Px.fz_nil, Px.fz_lst, Px.fz_dat, Px.fz_dct, Px.fz_seq, Px.fz_none, Px.tl_nil, Px.tl_cons, Px.ent_no, Px.ent_own, Px.ent_seq, Px.argN_no, Px.argN_own, Px.argN_seq, Px.endO_rt, Px.endO_nx, Px.endO_rf, Px.endO_srt, Px.endO_srf, Px.endO_ort, Px.endO_onx, Px.int_ev, Px.str_ev, Px.bl_ev, Px.non_ev, Px.var_ev, Px.varE_zd, Px.varE_zl, Px.consV_some, Px.varE_s, Px.op_ev, Px.nil_ev, Px.cons_ev, Px.tup_ev, Px.lst_ev, Px.cb_ev, Px.asB_b, Px.andV_ev, Px.orV_ev, Px.notV_ev, Px.of_ev, Px.and_ev, Px.or_ev, Px.not_ev, Px.yes_ev, Px.ttmp_ev, Px.ifE_ev, Px.tmp_ev, Px.flat_int, Px.flat_str, Px.flat_bool, Px.flat_none, Px.asL_l, Px.asT_t, Px.asI_i, Px.asK_d, Px.ofF_ev, Px.flst_ev, Px.lc_ev, Px.asD_d, Px.asF_f, Px.call_ev, Px.fcall_ev, Px.isi_ev, Px.bits_ev, Px.dget_ev, Px.din_ev, Px.rev_ev, Px.orT_ev, Px.qnone_lo, Px.qsome_lo, Px.sl_ev, Px.slL_f, Px.slT_f, Px.lenSeq_ev, Px.neg_ev, Px.add_f, Px.sub_f, Px.and_f, Px.or_f, Px.lt_f, Px.le_f, Px.gt_f, Px.ge_f, Px.eq_f, Px.ne_f, Px.flatQ_i, Px.flatQ_s, Px.flatQ_b, Px.isN_f, Px.notN_f, Px.ix_list, Px.ix_tuple, Px.len_f, Px.lenT_f, Px.tup_f, Px.tupT_f, Px.lst_f, Px.lstT_f, Px.max_f, Px.min_f, Px.int_f, Px.itList_ev, Px.itTup_ev, Px.itEnumT_ev, Px.itRng1_ev, Px.itVals_ev, Px.name_ev, Px.gtup_ev, Px.glst_ev, Px.stN_nil, Px.stN_cons, Px.seqK_nx, Px.seqK_rt, Px.seqK_rf, Px.seqK_bk, Px.seqK_ct, Px.seq_run, Px.next_run, Px.set_run, Px.setF_run, Px.asg_run, Px.ret_run, Px.retF_run, Px.ifS_run, Px.drop_run, Px.newK_run, Px.par2F_run, Px.forS_run, Px.whileS_run, Px.turnK_nx, Px.turnK_ct, Px.turnK_bk, Px.turnK_rt, Px.turnK_rf, Px.for_nil, Px.lcA_nil, Option.bind_some, List.length_cons, List.length_nil, List.length_map, if_true, reduceCtorEq, List.replicate_succ, List.replicate_zero, Nat.reduceAdd, Nat.reduceSub, Nat.reduceLeDiff, -Px.ix_tuple, x0, tup_no _ hn, Bool.not_false, if_true, List.length_cons, List.length_nil, Nat.reduceAdd, Nat.reduceLeDiff]
  rcases h with ⟨ds, rfl, _, hs⟩ | ⟨ds, rfl⟩ | rfl | rfl
  · by_cases hl : (ds.length : Int) = (P.length : Int)
    · rcases flaw_loop (.tuple [.tuple P, x]) (.tuple ds) ds 0 hs with ⟨j, a, e⟩ | ⟨e, is, rfl⟩
      · refine ⟨.tuple [.str "place", .int j], ?_, gd_place j, fun z => by cases z⟩
        unfold f_heap_flaw
        rw [fnOf_eq (by rfl)]
        unfold b_heap_flaw
        unfold flawBody at e
        simp only [Px.gt_zero, Px.gt_succ, Px.st_zero, Px.st_succ, Px.wp_nil, Px.wp_cons, Px.fz_nil, Px.fz_lst, Px.fz_dat, Px.fz_dct, Px.fz_seq, Px.fz_none, Px.tl_nil, Px.tl_cons, Px.ent_no, Px.ent_own, Px.ent_seq, Px.argN_no, Px.argN_own, Px.argN_seq, Px.endO_rt, Px.endO_nx, Px.endO_rf, Px.endO_srt, Px.endO_srf, Px.endO_ort, Px.endO_onx, Px.int_ev, Px.str_ev, Px.bl_ev, Px.non_ev, Px.var_ev, Px.varE_zd, Px.varE_zl, Px.consV_some, Px.varE_s, Px.op_ev, Px.nil_ev, Px.cons_ev, Px.tup_ev, Px.lst_ev, Px.cb_ev, Px.asB_b, Px.andV_ev, Px.orV_ev, Px.notV_ev, Px.of_ev, Px.and_ev, Px.or_ev, Px.not_ev, Px.yes_ev, Px.ttmp_ev, Px.ifE_ev, Px.tmp_ev, Px.flat_int, Px.flat_str, Px.flat_bool, Px.flat_none, Px.asL_l, Px.asT_t, Px.asI_i, Px.asK_d, Px.ofF_ev, Px.flst_ev, Px.lc_ev, Px.asD_d, Px.asF_f, Px.call_ev, Px.fcall_ev, Px.isi_ev, Px.bits_ev, Px.dget_ev, Px.din_ev, Px.rev_ev, Px.orT_ev, Px.qnone_lo, Px.qsome_lo, Px.sl_ev, Px.slL_f, Px.slT_f, Px.lenSeq_ev, Px.neg_ev, Px.add_f, Px.sub_f, Px.and_f, Px.or_f, Px.lt_f, Px.le_f, Px.gt_f, Px.ge_f, Px.eq_f, Px.ne_f, Px.flatQ_i, Px.flatQ_s, Px.flatQ_b, Px.isN_f, Px.notN_f, Px.ix_list, Px.ix_tuple, Px.len_f, Px.lenT_f, Px.tup_f, Px.tupT_f, Px.lst_f, Px.lstT_f, Px.max_f, Px.min_f, Px.int_f, Px.itList_ev, Px.itTup_ev, Px.itEnumT_ev, Px.itRng1_ev, Px.itVals_ev, Px.name_ev, Px.gtup_ev, Px.glst_ev, Px.stN_nil, Px.stN_cons, Px.seqK_nx, Px.seqK_rt, Px.seqK_rf, Px.seqK_bk, Px.seqK_ct, Px.seq_run, Px.next_run, Px.set_run, Px.setF_run, Px.asg_run, Px.ret_run, Px.retF_run, Px.ifS_run, Px.drop_run, Px.newK_run, Px.par2F_run, Px.forS_run, Px.whileS_run, Px.turnK_nx, Px.turnK_ct, Px.turnK_bk, Px.turnK_rt, Px.turnK_rf, Px.for_nil, Px.lcA_nil, Option.bind_some, List.length_cons, List.length_nil, List.length_map, if_true, reduceCtorEq, List.replicate_succ, List.replicate_zero, Nat.reduceAdd, Nat.reduceSub, Nat.reduceLeDiff, -Px.ix_tuple, x0, tup_is, hl, decide_true, Bool.not_true, Bool.false_eq_true, if_false, e]
      · refine ⟨.none, ?_, rfl, fun _ => ⟨is, rfl, by rw [List.length_map] at hl; omega⟩⟩
        unfold f_heap_flaw
        rw [fnOf_eq (by rfl)]
        unfold b_heap_flaw
        unfold flawBody at e
        simp only [Px.gt_zero, Px.gt_succ, Px.st_zero, Px.st_succ, Px.wp_nil, Px.wp_cons, Px.fz_nil, Px.fz_lst, Px.fz_dat, Px.fz_dct, Px.fz_seq, Px.fz_none, Px.tl_nil, Px.tl_cons, Px.ent_no, Px.ent_own, Px.ent_seq, Px.argN_no, Px.argN_own, Px.argN_seq, Px.endO_rt, Px.endO_nx, Px.endO_rf, Px.endO_srt, Px.endO_srf, Px.endO_ort, Px.endO_onx, Px.int_ev, Px.str_ev, Px.bl_ev, Px.non_ev, Px.var_ev, Px.varE_zd, Px.varE_zl, Px.consV_some, Px.varE_s, Px.op_ev, Px.nil_ev, Px.cons_ev, Px.tup_ev, Px.lst_ev, Px.cb_ev, Px.asB_b, Px.andV_ev, Px.orV_ev, Px.notV_ev, Px.of_ev, Px.and_ev, Px.or_ev, Px.not_ev, Px.yes_ev, Px.ttmp_ev, Px.ifE_ev, Px.tmp_ev, Px.flat_int, Px.flat_str, Px.flat_bool, Px.flat_none, Px.asL_l, Px.asT_t, Px.asI_i, Px.asK_d, Px.ofF_ev, Px.flst_ev, Px.lc_ev, Px.asD_d, Px.asF_f, Px.call_ev, Px.fcall_ev, Px.isi_ev, Px.bits_ev, Px.dget_ev, Px.din_ev, Px.rev_ev, Px.orT_ev, Px.qnone_lo, Px.qsome_lo, Px.sl_ev, Px.slL_f, Px.slT_f, Px.lenSeq_ev, Px.neg_ev, Px.add_f, Px.sub_f, Px.and_f, Px.or_f, Px.lt_f, Px.le_f, Px.gt_f, Px.ge_f, Px.eq_f, Px.ne_f, Px.flatQ_i, Px.flatQ_s, Px.flatQ_b, Px.isN_f, Px.notN_f, Px.ix_list, Px.ix_tuple, Px.len_f, Px.lenT_f, Px.tup_f, Px.tupT_f, Px.lst_f, Px.lstT_f, Px.max_f, Px.min_f, Px.int_f, Px.itList_ev, Px.itTup_ev, Px.itEnumT_ev, Px.itRng1_ev, Px.itVals_ev, Px.name_ev, Px.gtup_ev, Px.glst_ev, Px.stN_nil, Px.stN_cons, Px.seqK_nx, Px.seqK_rt, Px.seqK_rf, Px.seqK_bk, Px.seqK_ct, Px.seq_run, Px.next_run, Px.set_run, Px.setF_run, Px.asg_run, Px.ret_run, Px.retF_run, Px.ifS_run, Px.drop_run, Px.newK_run, Px.par2F_run, Px.forS_run, Px.whileS_run, Px.turnK_nx, Px.turnK_ct, Px.turnK_bk, Px.turnK_rt, Px.turnK_rf, Px.for_nil, Px.lcA_nil, Option.bind_some, List.length_cons, List.length_nil, List.length_map, if_true, reduceCtorEq, List.replicate_succ, List.replicate_zero, Nat.reduceAdd, Nat.reduceSub, Nat.reduceLeDiff, -Px.ix_tuple, x0, tup_is, -List.length_map, hl, decide_true, Bool.not_true, Bool.false_eq_true, if_false, e]
    · refine ⟨.tuple [.str "heap"], ?_, gd_heap, fun z => by cases z⟩
      unfold f_heap_flaw
      rw [fnOf_eq (by rfl)]
      unfold b_heap_flaw
      simp only [Px.gt_zero, Px.gt_succ, Px.st_zero, Px.st_succ, Px.wp_nil, Px.wp_cons, Px.fz_nil, Px.fz_lst, Px.fz_dat, Px.fz_dct, Px.fz_seq, Px.fz_none, Px.tl_nil, Px.tl_cons, Px.ent_no, Px.ent_own, Px.ent_seq, Px.argN_no, Px.argN_own, Px.argN_seq, Px.endO_rt, Px.endO_nx, Px.endO_rf, Px.endO_srt, Px.endO_srf, Px.endO_ort, Px.endO_onx, Px.int_ev, Px.str_ev, Px.bl_ev, Px.non_ev, Px.var_ev, Px.varE_zd, Px.varE_zl, Px.consV_some, Px.varE_s, Px.op_ev, Px.nil_ev, Px.cons_ev, Px.tup_ev, Px.lst_ev, Px.cb_ev, Px.asB_b, Px.andV_ev, Px.orV_ev, Px.notV_ev, Px.of_ev, Px.and_ev, Px.or_ev, Px.not_ev, Px.yes_ev, Px.ttmp_ev, Px.ifE_ev, Px.tmp_ev, Px.flat_int, Px.flat_str, Px.flat_bool, Px.flat_none, Px.asL_l, Px.asT_t, Px.asI_i, Px.asK_d, Px.ofF_ev, Px.flst_ev, Px.lc_ev, Px.asD_d, Px.asF_f, Px.call_ev, Px.fcall_ev, Px.isi_ev, Px.bits_ev, Px.dget_ev, Px.din_ev, Px.rev_ev, Px.orT_ev, Px.qnone_lo, Px.qsome_lo, Px.sl_ev, Px.slL_f, Px.slT_f, Px.lenSeq_ev, Px.neg_ev, Px.add_f, Px.sub_f, Px.and_f, Px.or_f, Px.lt_f, Px.le_f, Px.gt_f, Px.ge_f, Px.eq_f, Px.ne_f, Px.flatQ_i, Px.flatQ_s, Px.flatQ_b, Px.isN_f, Px.notN_f, Px.ix_list, Px.ix_tuple, Px.len_f, Px.lenT_f, Px.tup_f, Px.tupT_f, Px.lst_f, Px.lstT_f, Px.max_f, Px.min_f, Px.int_f, Px.itList_ev, Px.itTup_ev, Px.itEnumT_ev, Px.itRng1_ev, Px.itVals_ev, Px.name_ev, Px.gtup_ev, Px.glst_ev, Px.stN_nil, Px.stN_cons, Px.seqK_nx, Px.seqK_rt, Px.seqK_rf, Px.seqK_bk, Px.seqK_ct, Px.seq_run, Px.next_run, Px.set_run, Px.setF_run, Px.asg_run, Px.ret_run, Px.retF_run, Px.ifS_run, Px.drop_run, Px.newK_run, Px.par2F_run, Px.forS_run, Px.whileS_run, Px.turnK_nx, Px.turnK_ct, Px.turnK_bk, Px.turnK_rt, Px.turnK_rf, Px.for_nil, Px.lcA_nil, Option.bind_some, List.length_cons, List.length_nil, List.length_map, if_true, reduceCtorEq, List.replicate_succ, List.replicate_zero, Nat.reduceAdd, Nat.reduceSub, Nat.reduceLeDiff, -Px.ix_tuple, x0, tup_is, hl, decide_false, Bool.not_false, if_true, List.length_cons, List.length_nil, Nat.reduceAdd, Nat.reduceLeDiff]
  · exact not rfl
  · exact not rfl
  · exact not rfl
theorem flaw_wrong {one st hf : PyData} (hb : netB one = true) (h : f_heap_flaw .no [one, st] = some (.dat hf, [])) : f_heap_wrong .no [one, st] = some (.dat hf, []) := by
  have e : f_check_net .no [one] = some (.dat .none, []) := by
    unfold f_check_net
    exact if_pos hb
  unfold f_heap_wrong
  rw [fnOf_eq (by rfl)]
  unfold b_heap_wrong
  simp only [Px.gt_zero, Px.gt_succ, Px.st_zero, Px.st_succ, Px.wp_nil, Px.wp_cons, Px.fz_nil, Px.fz_lst, Px.fz_dat, Px.fz_dct, Px.fz_seq, Px.fz_none, Px.tl_nil, Px.tl_cons, Px.ent_no, Px.ent_own, Px.ent_seq, Px.argN_no, Px.argN_own, Px.argN_seq, Px.endO_rt, Px.endO_nx, Px.endO_rf, Px.endO_srt, Px.endO_srf, Px.endO_ort, Px.endO_onx, Px.int_ev, Px.str_ev, Px.bl_ev, Px.non_ev, Px.var_ev, Px.varE_zd, Px.varE_zl, Px.consV_some, Px.varE_s, Px.op_ev, Px.nil_ev, Px.cons_ev, Px.tup_ev, Px.lst_ev, Px.cb_ev, Px.asB_b, Px.andV_ev, Px.orV_ev, Px.notV_ev, Px.of_ev, Px.and_ev, Px.or_ev, Px.not_ev, Px.yes_ev, Px.ttmp_ev, Px.ifE_ev, Px.tmp_ev, Px.flat_int, Px.flat_str, Px.flat_bool, Px.flat_none, Px.asL_l, Px.asT_t, Px.asI_i, Px.asK_d, Px.ofF_ev, Px.flst_ev, Px.lc_ev, Px.asD_d, Px.asF_f, Px.call_ev, Px.fcall_ev, Px.isi_ev, Px.bits_ev, Px.dget_ev, Px.din_ev, Px.rev_ev, Px.orT_ev, Px.qnone_lo, Px.qsome_lo, Px.sl_ev, Px.slL_f, Px.slT_f, Px.lenSeq_ev, Px.neg_ev, Px.add_f, Px.sub_f, Px.and_f, Px.or_f, Px.lt_f, Px.le_f, Px.gt_f, Px.ge_f, Px.eq_f, Px.ne_f, Px.flatQ_i, Px.flatQ_s, Px.flatQ_b, Px.isN_f, Px.notN_f, Px.ix_list, Px.ix_tuple, Px.len_f, Px.lenT_f, Px.tup_f, Px.tupT_f, Px.lst_f, Px.lstT_f, Px.max_f, Px.min_f, Px.int_f, Px.itList_ev, Px.itTup_ev, Px.itEnumT_ev, Px.itRng1_ev, Px.itVals_ev, Px.name_ev, Px.gtup_ev, Px.glst_ev, Px.stN_nil, Px.stN_cons, Px.seqK_nx, Px.seqK_rt, Px.seqK_rf, Px.seqK_bk, Px.seqK_ct, Px.seq_run, Px.next_run, Px.set_run, Px.setF_run, Px.asg_run, Px.ret_run, Px.retF_run, Px.ifS_run, Px.drop_run, Px.newK_run, Px.par2F_run, Px.forS_run, Px.whileS_run, Px.turnK_nx, Px.turnK_ct, Px.turnK_bk, Px.turnK_rt, Px.turnK_rf, Px.for_nil, Px.lcA_nil, Option.bind_some, List.length_cons, List.length_nil, List.length_map, if_true, reduceCtorEq, List.replicate_succ, List.replicate_zero, Nat.reduceAdd, Nat.reduceSub, Nat.reduceLeDiff, e, h]
theorem wrong_net {d : PyData} (h : gd 20 d = true) : f_net_wrong .no [d] = some (.dat (netWrong d), []) := by
  unfold f_net_wrong
  exact if_pos h
theorem check_is {d : PyData} (h : gd 20 d = true) : fx_check_net [d] = some (if isNoneD (netWrong d) = true then .ok (.dat .none) else .ex ("NoNet", [("wrong", netWrong d)])) := by
  unfold fx_check_net
  rw [fnX_eq (by rfl)]
  unfold bx_check_net
  cases hw : isNoneD (netWrong d) <;> simp only [Px.gt_zero, Px.gt_succ, Px.st_zero, Px.st_succ, Px.wp_nil, Px.wp_cons, Px.fz_nil, Px.fz_lst, Px.fz_dat, Px.fz_dct, Px.fz_seq, Px.fz_none, Px.tl_nil, Px.tl_cons, Px.ent_no, Px.ent_own, Px.ent_seq, Px.argN_no, Px.argN_own, Px.argN_seq, Px.endO_rt, Px.endO_nx, Px.endO_rf, Px.endO_srt, Px.endO_srf, Px.endO_ort, Px.endO_onx, Px.int_ev, Px.str_ev, Px.bl_ev, Px.non_ev, Px.var_ev, Px.varE_zd, Px.varE_zl, Px.consV_some, Px.varE_s, Px.op_ev, Px.nil_ev, Px.cons_ev, Px.tup_ev, Px.lst_ev, Px.cb_ev, Px.asB_b, Px.andV_ev, Px.orV_ev, Px.notV_ev, Px.of_ev, Px.and_ev, Px.or_ev, Px.not_ev, Px.yes_ev, Px.ttmp_ev, Px.ifE_ev, Px.tmp_ev, Px.flat_int, Px.flat_str, Px.flat_bool, Px.flat_none, Px.asL_l, Px.asT_t, Px.asI_i, Px.asK_d, Px.ofF_ev, Px.flst_ev, Px.lc_ev, Px.asD_d, Px.asF_f, Px.call_ev, Px.fcall_ev, Px.isi_ev, Px.bits_ev, Px.dget_ev, Px.din_ev, Px.rev_ev, Px.orT_ev, Px.qnone_lo, Px.qsome_lo, Px.sl_ev, Px.slL_f, Px.slT_f, Px.lenSeq_ev, Px.neg_ev, Px.add_f, Px.sub_f, Px.and_f, Px.or_f, Px.lt_f, Px.le_f, Px.gt_f, Px.ge_f, Px.eq_f, Px.ne_f, Px.flatQ_i, Px.flatQ_s, Px.flatQ_b, Px.isN_f, Px.notN_f, Px.ix_list, Px.ix_tuple, Px.len_f, Px.lenT_f, Px.tup_f, Px.tupT_f, Px.lst_f, Px.lstT_f, Px.max_f, Px.min_f, Px.int_f, Px.itList_ev, Px.itTup_ev, Px.itEnumT_ev, Px.itRng1_ev, Px.itVals_ev, Px.name_ev, Px.gtup_ev, Px.glst_ev, Px.stN_nil, Px.stN_cons, Px.seqK_nx, Px.seqK_rt, Px.seqK_rf, Px.seqK_bk, Px.seqK_ct, Px.seq_run, Px.next_run, Px.set_run, Px.setF_run, Px.asg_run, Px.ret_run, Px.retF_run, Px.ifS_run, Px.drop_run, Px.newK_run, Px.par2F_run, Px.forS_run, Px.whileS_run, Px.turnK_nx, Px.turnK_ct, Px.turnK_bk, Px.turnK_rt, Px.turnK_rf, Px.for_nil, Px.lcA_nil, Option.bind_some, List.length_cons, List.length_nil, List.length_map, if_true, reduceCtorEq, List.replicate_succ, List.replicate_zero, Nat.reduceAdd, Nat.reduceSub, Nat.reduceLeDiff, yseq_run, yof_run, yif_run, yraise_run, seqX_nx, wrong_net h, hw, Bool.not_true, Bool.not_false, Bool.false_eq_true, if_true, if_false, List.length_cons, List.length_nil, Nat.reduceAdd, Nat.reduceLeDiff, outX_nx, outX_ex] <;> rfl
theorem check_heap_is {one st hf : PyData} (h : f_heap_wrong .no [one, st] = some (.dat hf, [])) : fx_check_heap [one, st] = some (if isNoneD hf = true then .ok (.dat .none) else .ex ("NoHeap", [("wrong", hf)])) := by
  unfold fx_check_heap
  rw [fnX_eq (by rfl)]
  unfold bx_check_heap
  cases hw : isNoneD hf <;> simp only [Px.gt_zero, Px.gt_succ, Px.st_zero, Px.st_succ, Px.wp_nil, Px.wp_cons, Px.fz_nil, Px.fz_lst, Px.fz_dat, Px.fz_dct, Px.fz_seq, Px.fz_none, Px.tl_nil, Px.tl_cons, Px.ent_no, Px.ent_own, Px.ent_seq, Px.argN_no, Px.argN_own, Px.argN_seq, Px.endO_rt, Px.endO_nx, Px.endO_rf, Px.endO_srt, Px.endO_srf, Px.endO_ort, Px.endO_onx, Px.int_ev, Px.str_ev, Px.bl_ev, Px.non_ev, Px.var_ev, Px.varE_zd, Px.varE_zl, Px.consV_some, Px.varE_s, Px.op_ev, Px.nil_ev, Px.cons_ev, Px.tup_ev, Px.lst_ev, Px.cb_ev, Px.asB_b, Px.andV_ev, Px.orV_ev, Px.notV_ev, Px.of_ev, Px.and_ev, Px.or_ev, Px.not_ev, Px.yes_ev, Px.ttmp_ev, Px.ifE_ev, Px.tmp_ev, Px.flat_int, Px.flat_str, Px.flat_bool, Px.flat_none, Px.asL_l, Px.asT_t, Px.asI_i, Px.asK_d, Px.ofF_ev, Px.flst_ev, Px.lc_ev, Px.asD_d, Px.asF_f, Px.call_ev, Px.fcall_ev, Px.isi_ev, Px.bits_ev, Px.dget_ev, Px.din_ev, Px.rev_ev, Px.orT_ev, Px.qnone_lo, Px.qsome_lo, Px.sl_ev, Px.slL_f, Px.slT_f, Px.lenSeq_ev, Px.neg_ev, Px.add_f, Px.sub_f, Px.and_f, Px.or_f, Px.lt_f, Px.le_f, Px.gt_f, Px.ge_f, Px.eq_f, Px.ne_f, Px.flatQ_i, Px.flatQ_s, Px.flatQ_b, Px.isN_f, Px.notN_f, Px.ix_list, Px.ix_tuple, Px.len_f, Px.lenT_f, Px.tup_f, Px.tupT_f, Px.lst_f, Px.lstT_f, Px.max_f, Px.min_f, Px.int_f, Px.itList_ev, Px.itTup_ev, Px.itEnumT_ev, Px.itRng1_ev, Px.itVals_ev, Px.name_ev, Px.gtup_ev, Px.glst_ev, Px.stN_nil, Px.stN_cons, Px.seqK_nx, Px.seqK_rt, Px.seqK_rf, Px.seqK_bk, Px.seqK_ct, Px.seq_run, Px.next_run, Px.set_run, Px.setF_run, Px.asg_run, Px.ret_run, Px.retF_run, Px.ifS_run, Px.drop_run, Px.newK_run, Px.par2F_run, Px.forS_run, Px.whileS_run, Px.turnK_nx, Px.turnK_ct, Px.turnK_bk, Px.turnK_rt, Px.turnK_rf, Px.for_nil, Px.lcA_nil, Option.bind_some, List.length_cons, List.length_nil, List.length_map, if_true, reduceCtorEq, List.replicate_succ, List.replicate_zero, Nat.reduceAdd, Nat.reduceSub, Nat.reduceLeDiff, yseq_run, yof_run, yif_run, yraise_run, seqX_nx, h, hw, Bool.not_true, Bool.not_false, Bool.false_eq_true, if_true, if_false, List.length_cons, List.length_nil, Nat.reduceAdd, Nat.reduceLeDiff, outX_nx, outX_ex] <;> rfl
end Nt

set_option Elab.async false
set_option linter.all false
set_option autoImplicit false
set_option maxRecDepth 100000
set_option maxHeartbeats 4000000
/-! led, of what it lets in. -/
namespace Nt
open PySem PySem.Spec PyProof.Rows L2 Lw Px
theorem zip3_nil : zipD [[], [], []] = [] := rfl
theorem zip2_nil : zipD [[], []] = [] := rfl
theorem zip3_cons (a b c : PyData) (as bs cs : List PyData) : zipD [a :: as, b :: bs, c :: cs] = .tuple [a, b, c] :: zipD [as, bs, cs] := by
  have e : minL [a :: as, b :: bs, c :: cs] = minL [as, bs, cs] + 1 := by
    show min (as.length + 1) (min (bs.length + 1) (cs.length + 1)) = min as.length (min bs.length cs.length) + 1
    omega
  unfold zipD
  rw [e, List.range_succ_eq_map, List.map_cons, List.map_map]
  rfl
theorem zip2_cons (a b : PyData) (as bs : List PyData) : zipD [a :: as, b :: bs] = .tuple [a, b] :: zipD [as, bs] := by
  have e : minL [a :: as, b :: bs] = minL [as, bs] + 1 := by
    show min (as.length + 1) (bs.length + 1) = min as.length bs.length + 1
    omega
  unfold zipD
  rw [e, List.range_succ_eq_map, List.map_cons, List.map_map]
  rfl
theorem key_s (z : Str) : keyOf (.str z) = some (.inr z) := rfl
theorem part_ix (q : Str × Int) : oIx.f (partD q) (.int 0) = some (.str q.1) := by
  unfold partD
  rw [Px.ix_tuple]
  exact atI_zero _ _
theorem num_dc (w : PyData) : ∀ (qs : List (Str × Int)) (k : Int) (acc : List (Key × PyData)), ∃ ks, dcA (Xg.tup [1, 2]) (Xe.op oIx (Xe.var 2) (Xe.int 0)) (Xe.var 1) [1, 2] (pairsD k (qs.map partD)) acc [some (.dat w), none, none] = some (ks, [some (.dat w), none, none])
  | [], k, acc => ⟨acc, rfl⟩
  | q :: qs, k, acc => by
    obtain ⟨ks, e⟩ := num_dc w qs (k + 1) (putD acc (.inr q.1) (.int k))
    refine ⟨ks, ?_⟩
    rw [List.map_cons, pairsD_cons, dcA_cons]
    simp only [Px.gt_zero, Px.gt_succ, Px.st_zero, Px.st_succ, Px.wp_nil, Px.wp_cons, Px.fz_nil, Px.fz_lst, Px.fz_dat, Px.fz_dct, Px.fz_seq, Px.fz_none, Px.tl_nil, Px.tl_cons, Px.ent_no, Px.ent_own, Px.ent_seq, Px.argN_no, Px.argN_own, Px.argN_seq, Px.endO_rt, Px.endO_nx, Px.endO_rf, Px.endO_srt, Px.endO_srf, Px.endO_ort, Px.endO_onx, Px.int_ev, Px.str_ev, Px.bl_ev, Px.non_ev, Px.var_ev, Px.varE_zd, Px.varE_zl, Px.consV_some, Px.varE_s, Px.op_ev, Px.nil_ev, Px.cons_ev, Px.tup_ev, Px.lst_ev, Px.cb_ev, Px.asB_b, Px.andV_ev, Px.orV_ev, Px.notV_ev, Px.of_ev, Px.and_ev, Px.or_ev, Px.not_ev, Px.yes_ev, Px.ttmp_ev, Px.ifE_ev, Px.tmp_ev, Px.flat_int, Px.flat_str, Px.flat_bool, Px.flat_none, Px.asL_l, Px.asT_t, Px.asI_i, Px.asK_d, Px.ofF_ev, Px.flst_ev, Px.lc_ev, Px.asD_d, Px.asF_f, Px.call_ev, Px.fcall_ev, Px.isi_ev, Px.bits_ev, Px.dget_ev, Px.din_ev, Px.rev_ev, Px.orT_ev, Px.qnone_lo, Px.qsome_lo, Px.sl_ev, Px.slL_f, Px.slT_f, Px.lenSeq_ev, Px.neg_ev, Px.add_f, Px.sub_f, Px.and_f, Px.or_f, Px.lt_f, Px.le_f, Px.gt_f, Px.ge_f, Px.eq_f, Px.ne_f, Px.flatQ_i, Px.flatQ_s, Px.flatQ_b, Px.isN_f, Px.notN_f, Px.ix_list, Px.ix_tuple, Px.len_f, Px.lenT_f, Px.tup_f, Px.tupT_f, Px.lst_f, Px.lstT_f, Px.max_f, Px.min_f, Px.int_f, Px.itList_ev, Px.itTup_ev, Px.itEnumT_ev, Px.itRng1_ev, Px.itVals_ev, Px.name_ev, Px.gtup_ev, Px.glst_ev, Px.stN_nil, Px.stN_cons, Px.seqK_nx, Px.seqK_rt, Px.seqK_rf, Px.seqK_bk, Px.seqK_ct, Px.seq_run, Px.next_run, Px.set_run, Px.setF_run, Px.asg_run, Px.ret_run, Px.retF_run, Px.ifS_run, Px.drop_run, Px.newK_run, Px.par2F_run, Px.forS_run, Px.whileS_run, Px.turnK_nx, Px.turnK_ct, Px.turnK_bk, Px.turnK_rt, Px.turnK_rf, Px.for_nil, Px.lcA_nil, Option.bind_some, List.length_cons, List.length_nil, List.length_map, if_true, reduceCtorEq, List.replicate_succ, List.replicate_zero, Nat.reduceAdd, Nat.reduceSub, Nat.reduceLeDiff, -Px.ix_tuple, part_ix, key_s, e]
theorem numbers_is {qs : List (Str × Int)} (h : qs.length ≤ 100) : ∃ ks, f_numbers_of .no [.tuple (qs.map partD)] = some (.dat (dctD ks), []) := by
  obtain ⟨ks, e⟩ := num_dc (.tuple (qs.map partD)) qs 0 []
  refine ⟨ks, ?_⟩
  unfold f_numbers_of
  rw [fnOf_eq (by rfl)]
  unfold b_numbers_of
  simp only [Px.gt_zero, Px.gt_succ, Px.st_zero, Px.st_succ, Px.wp_nil, Px.wp_cons, Px.fz_nil, Px.fz_lst, Px.fz_dat, Px.fz_dct, Px.fz_seq, Px.fz_none, Px.tl_nil, Px.tl_cons, Px.ent_no, Px.ent_own, Px.ent_seq, Px.argN_no, Px.argN_own, Px.argN_seq, Px.endO_rt, Px.endO_nx, Px.endO_rf, Px.endO_srt, Px.endO_srf, Px.endO_ort, Px.endO_onx, Px.int_ev, Px.str_ev, Px.bl_ev, Px.non_ev, Px.var_ev, Px.varE_zd, Px.varE_zl, Px.consV_some, Px.varE_s, Px.op_ev, Px.nil_ev, Px.cons_ev, Px.tup_ev, Px.lst_ev, Px.cb_ev, Px.asB_b, Px.andV_ev, Px.orV_ev, Px.notV_ev, Px.of_ev, Px.and_ev, Px.or_ev, Px.not_ev, Px.yes_ev, Px.ttmp_ev, Px.ifE_ev, Px.tmp_ev, Px.flat_int, Px.flat_str, Px.flat_bool, Px.flat_none, Px.asL_l, Px.asT_t, Px.asI_i, Px.asK_d, Px.ofF_ev, Px.flst_ev, Px.lc_ev, Px.asD_d, Px.asF_f, Px.call_ev, Px.fcall_ev, Px.isi_ev, Px.bits_ev, Px.dget_ev, Px.din_ev, Px.rev_ev, Px.orT_ev, Px.qnone_lo, Px.qsome_lo, Px.sl_ev, Px.slL_f, Px.slT_f, Px.lenSeq_ev, Px.neg_ev, Px.add_f, Px.sub_f, Px.and_f, Px.or_f, Px.lt_f, Px.le_f, Px.gt_f, Px.ge_f, Px.eq_f, Px.ne_f, Px.flatQ_i, Px.flatQ_s, Px.flatQ_b, Px.isN_f, Px.notN_f, Px.ix_list, Px.ix_tuple, Px.len_f, Px.lenT_f, Px.tup_f, Px.tupT_f, Px.lst_f, Px.lstT_f, Px.max_f, Px.min_f, Px.int_f, Px.itList_ev, Px.itTup_ev, Px.itEnumT_ev, Px.itRng1_ev, Px.itVals_ev, Px.name_ev, Px.gtup_ev, Px.glst_ev, Px.stN_nil, Px.stN_cons, Px.seqK_nx, Px.seqK_rt, Px.seqK_rf, Px.seqK_bk, Px.seqK_ct, Px.seq_run, Px.next_run, Px.set_run, Px.setF_run, Px.asg_run, Px.ret_run, Px.retF_run, Px.ifS_run, Px.drop_run, Px.newK_run, Px.par2F_run, Px.forS_run, Px.whileS_run, Px.turnK_nx, Px.turnK_ct, Px.turnK_bk, Px.turnK_rt, Px.turnK_rf, Px.for_nil, Px.lcA_nil, Option.bind_some, List.length_cons, List.length_nil, List.length_map, if_true, reduceCtorEq, List.replicate_succ, List.replicate_zero, Nat.reduceAdd, Nat.reduceSub, Nat.reduceLeDiff, dc_ev, pairsD_len, List.length_map, if_pos (show qs.length ≤ 50000 by omega), e]
theorem img_lc (v0 v1 v2 v4 v5 v8 v9 v10 v11 : Option AV) : ∀ qs : List (Str × Int), lcA (Xg.tup [6, 7]) Xt.yes (Xe.getD (Xe.var 3) (Xe.var 6) (Xe.var 6)) [6, 7] (qs.map partD) [v0, v1, v2, some (.dat (dctD [])), v4, v5, none, none, v8, v9, v10, v11] =
    some ((qs.map (·.1)).map .str, [v0, v1, v2, some (.dat (dctD [])), v4, v5, none, none, v8, v9, v10, v11])
  | [] => rfl
  | q :: qs => by
    have ih := img_lc v0 v1 v2 v4 v5 v8 v9 v10 v11 qs
    rw [List.map_cons, lcA_cons]
    show (((Xg.tup [6, 7]).ev (.tuple [.str q.1, .int q.2]) _).bind _) = _
    simp only [Px.gt_zero, Px.gt_succ, Px.st_zero, Px.st_succ, Px.wp_nil, Px.wp_cons, Px.fz_nil, Px.fz_lst, Px.fz_dat, Px.fz_dct, Px.fz_seq, Px.fz_none, Px.tl_nil, Px.tl_cons, Px.ent_no, Px.ent_own, Px.ent_seq, Px.argN_no, Px.argN_own, Px.argN_seq, Px.endO_rt, Px.endO_nx, Px.endO_rf, Px.endO_srt, Px.endO_srf, Px.endO_ort, Px.endO_onx, Px.int_ev, Px.str_ev, Px.bl_ev, Px.non_ev, Px.var_ev, Px.varE_zd, Px.varE_zl, Px.consV_some, Px.varE_s, Px.op_ev, Px.nil_ev, Px.cons_ev, Px.tup_ev, Px.lst_ev, Px.cb_ev, Px.asB_b, Px.andV_ev, Px.orV_ev, Px.notV_ev, Px.of_ev, Px.and_ev, Px.or_ev, Px.not_ev, Px.yes_ev, Px.ttmp_ev, Px.ifE_ev, Px.tmp_ev, Px.flat_int, Px.flat_str, Px.flat_bool, Px.flat_none, Px.asL_l, Px.asT_t, Px.asI_i, Px.asK_d, Px.ofF_ev, Px.flst_ev, Px.lc_ev, Px.asD_d, Px.asF_f, Px.call_ev, Px.fcall_ev, Px.isi_ev, Px.bits_ev, Px.dget_ev, Px.din_ev, Px.rev_ev, Px.orT_ev, Px.qnone_lo, Px.qsome_lo, Px.sl_ev, Px.slL_f, Px.slT_f, Px.lenSeq_ev, Px.neg_ev, Px.add_f, Px.sub_f, Px.and_f, Px.or_f, Px.lt_f, Px.le_f, Px.gt_f, Px.ge_f, Px.eq_f, Px.ne_f, Px.flatQ_i, Px.flatQ_s, Px.flatQ_b, Px.isN_f, Px.notN_f, Px.ix_list, Px.ix_tuple, Px.len_f, Px.lenT_f, Px.tup_f, Px.tupT_f, Px.lst_f, Px.lstT_f, Px.max_f, Px.min_f, Px.int_f, Px.itList_ev, Px.itTup_ev, Px.itEnumT_ev, Px.itRng1_ev, Px.itVals_ev, Px.name_ev, Px.gtup_ev, Px.glst_ev, Px.stN_nil, Px.stN_cons, Px.seqK_nx, Px.seqK_rt, Px.seqK_rf, Px.seqK_bk, Px.seqK_ct, Px.seq_run, Px.next_run, Px.set_run, Px.setF_run, Px.asg_run, Px.ret_run, Px.retF_run, Px.ifS_run, Px.drop_run, Px.newK_run, Px.par2F_run, Px.forS_run, Px.whileS_run, Px.turnK_nx, Px.turnK_ct, Px.turnK_bk, Px.turnK_rt, Px.turnK_rf, Px.for_nil, Px.lcA_nil, Option.bind_some, List.length_cons, List.length_nil, List.length_map, if_true, reduceCtorEq, List.replicate_succ, List.replicate_zero, Nat.reduceAdd, Nat.reduceSub, Nat.reduceLeDiff, getD_ev, key_s, show ∀ k, valD [] k = none from fun _ => rfl, Option.getD_none, ih]
    rfl
abbrev goneBody : Ys := Ys.ifS (Xt.and (Xt.of (Xe.op oGt (Xe.var 9) (Xe.int 0))) (Xt.of (Xe.din true (Xe.var 8) (Xe.var 4)))) (Ys.raiseI "Gone" ["place"] (Xa.cons (Xe.var 6) Xa.nil)) (Ys.of Xs.next)
def isGone (r : Option OutX) : Prop := ∃ (z : Str) (a : AE), r = some (.ex ("Gone", [("place", .str z)]) a)
theorem gone_loop (v0 v1 v2 v3 v5 v10 v11 : Option AV) (ks : List (Key × PyData)) : ∀ (qs : List (Str × Int)) (is : List Int),
    isGone (forY (Xg.tupG [(Xg.tup [6, 7]), (Xg.name 8), (Xg.name 9)]) goneBody [6, 7, 8, 9] (zipD [qs.map partD, (qs.map (·.1)).map .str, is.map .int]) [v0, v1, v2, v3, some (.dat (dctD ks)), v5, none, none, none, none, v10, v11]) ∨
    forY (Xg.tupG [(Xg.tup [6, 7]), (Xg.name 8), (Xg.name 9)]) goneBody [6, 7, 8, 9] (zipD [qs.map partD, (qs.map (·.1)).map .str, is.map .int]) [v0, v1, v2, v3, some (.dat (dctD ks)), v5, none, none, none, none, v10, v11] = some (.o (.nx [v0, v1, v2, v3, some (.dat (dctD ks)), v5, none, none, none, none, v10, v11]))
  | [], is => .inr (by
    rw [show zipD [([] : List (Str × Int)).map partD, (([] : List (Str × Int)).map (·.1)).map .str, is.map .int] = [] from by cases is <;> rfl]
    rfl)
  | q :: qs, [] => .inr (by
    rw [show zipD [(q :: qs).map partD, ((q :: qs).map (·.1)).map .str, ([] : List Int).map .int] = [] from by
      unfold zipD
      rw [show minL [(q :: qs).map partD, ((q :: qs).map (·.1)).map .str, ([] : List Int).map PyData.int] = 0 from by
        show min _ (min _ 0) = 0
        omega]
      rfl]
    rfl)
  | q :: qs, i :: is => by
    have ih := gone_loop v0 v1 v2 v3 v5 v10 v11 ks qs is
    rw [List.map_cons, List.map_cons, List.map_cons, List.map_cons, zip3_cons]
    have un : ∀ (d : PyData) (ds : List PyData) (a : AE), forY (Xg.tupG [(Xg.tup [6, 7]), (Xg.name 8), (Xg.name 9)]) goneBody [6, 7, 8, 9] (d :: ds) a = ((Xg.tupG [(Xg.tup [6, 7]), (Xg.name 8), (Xg.name 9)]).ev d a).bind fun a1 => (goneBody.run a1).bind fun o => match o with
      | .o (.nx a2) => forY (Xg.tupG [(Xg.tup [6, 7]), (Xg.name 8), (Xg.name 9)]) goneBody [6, 7, 8, 9] ds (wp a2 [6, 7, 8, 9])
      | .o (.ct a2) => forY (Xg.tupG [(Xg.tup [6, 7]), (Xg.name 8), (Xg.name 9)]) goneBody [6, 7, 8, 9] ds (wp a2 [6, 7, 8, 9])
      | .o (.bk a2) => some (.o (.nx a2))
      | .o (.rt d a2) => some (.o (.rt d a2))
      | .o (.rf d a2) => some (.o (.rf d a2))
      | .ex r a2 => some (.ex r a2) := fun _ _ _ => rfl
    rw [un]
    have lt : (1 : Nat) ≤ 1000 := by decide
    have body : goneBody.run [v0, v1, v2, v3, some (.dat (dctD ks)), v5, some (.dat (.str q.1)), some (.dat (.int q.2)), some (.dat (.str q.1)), some (.dat (.int i)), v10, v11] =
        if decide (0 < i) = true ∧ (valD ks (.inr q.1)).isSome = false then some (.ex ("Gone", [("place", .str q.1)]) [v0, v1, v2, v3, some (.dat (dctD ks)), v5, some (.dat (.str q.1)), some (.dat (.int q.2)), some (.dat (.str q.1)), some (.dat (.int i)), v10, v11])
        else some (.o (.nx [v0, v1, v2, v3, some (.dat (dctD ks)), v5, some (.dat (.str q.1)), some (.dat (.int q.2)), some (.dat (.str q.1)), some (.dat (.int i)), v10, v11])) := by
      unfold goneBody
      cases h1 : decide (0 < i) <;> cases h2 : (valD ks (.inr q.1)).isSome <;>
        simp only [Px.gt_zero, Px.gt_succ, Px.st_zero, Px.st_succ, Px.wp_nil, Px.wp_cons, Px.fz_nil, Px.fz_lst, Px.fz_dat, Px.fz_dct, Px.fz_seq, Px.fz_none, Px.tl_nil, Px.tl_cons, Px.ent_no, Px.ent_own, Px.ent_seq, Px.argN_no, Px.argN_own, Px.argN_seq, Px.endO_rt, Px.endO_nx, Px.endO_rf, Px.endO_srt, Px.endO_srf, Px.endO_ort, Px.endO_onx, Px.int_ev, Px.str_ev, Px.bl_ev, Px.non_ev, Px.var_ev, Px.varE_zd, Px.varE_zl, Px.consV_some, Px.varE_s, Px.op_ev, Px.nil_ev, Px.cons_ev, Px.tup_ev, Px.lst_ev, Px.cb_ev, Px.asB_b, Px.andV_ev, Px.orV_ev, Px.notV_ev, Px.of_ev, Px.and_ev, Px.or_ev, Px.not_ev, Px.yes_ev, Px.ttmp_ev, Px.ifE_ev, Px.tmp_ev, Px.flat_int, Px.flat_str, Px.flat_bool, Px.flat_none, Px.asL_l, Px.asT_t, Px.asI_i, Px.asK_d, Px.ofF_ev, Px.flst_ev, Px.lc_ev, Px.asD_d, Px.asF_f, Px.call_ev, Px.fcall_ev, Px.isi_ev, Px.bits_ev, Px.dget_ev, Px.din_ev, Px.rev_ev, Px.orT_ev, Px.qnone_lo, Px.qsome_lo, Px.sl_ev, Px.slL_f, Px.slT_f, Px.lenSeq_ev, Px.neg_ev, Px.add_f, Px.sub_f, Px.and_f, Px.or_f, Px.lt_f, Px.le_f, Px.gt_f, Px.ge_f, Px.eq_f, Px.ne_f, Px.flatQ_i, Px.flatQ_s, Px.flatQ_b, Px.isN_f, Px.notN_f, Px.ix_list, Px.ix_tuple, Px.len_f, Px.lenT_f, Px.tup_f, Px.tupT_f, Px.lst_f, Px.lstT_f, Px.max_f, Px.min_f, Px.int_f, Px.itList_ev, Px.itTup_ev, Px.itEnumT_ev, Px.itRng1_ev, Px.itVals_ev, Px.name_ev, Px.gtup_ev, Px.glst_ev, Px.stN_nil, Px.stN_cons, Px.seqK_nx, Px.seqK_rt, Px.seqK_rf, Px.seqK_bk, Px.seqK_ct, Px.seq_run, Px.next_run, Px.set_run, Px.setF_run, Px.asg_run, Px.ret_run, Px.retF_run, Px.ifS_run, Px.drop_run, Px.newK_run, Px.par2F_run, Px.forS_run, Px.whileS_run, Px.turnK_nx, Px.turnK_ct, Px.turnK_bk, Px.turnK_rt, Px.turnK_rf, Px.for_nil, Px.lcA_nil, Option.bind_some, List.length_cons, List.length_nil, List.length_map, if_true, reduceCtorEq, List.replicate_succ, List.replicate_zero, Nat.reduceAdd, Nat.reduceSub, Nat.reduceLeDiff, yif_run, yraise_run, yof_run, key_s, h1, h2, Bool.not_true, Bool.not_false, Bool.false_eq_true, if_true, if_false, List.length_cons, List.length_nil, Nat.reduceAdd, Nat.reduceLeDiff, and_self, and_true, true_and, and_false, false_and, reduceCtorEq] <;> rfl
    have tg : (Xg.tupG [(Xg.tup [6, 7]), (Xg.name 8), (Xg.name 9)]).ev (.tuple [partD q, .str q.1, .int i]) [v0, v1, v2, v3, some (.dat (dctD ks)), v5, none, none, none, none, v10, v11] =
        some [v0, v1, v2, v3, some (.dat (dctD ks)), v5, some (.dat (.str q.1)), some (.dat (.int q.2)), some (.dat (.str q.1)), some (.dat (.int i)), v10, v11] := by
      show evXs [(Xg.tup [6, 7]), (Xg.name 8), (Xg.name 9)] [.tuple [.str q.1, .int q.2], .str q.1, .int i] _ = _
      simp only [Px.gt_zero, Px.gt_succ, Px.st_zero, Px.st_succ, Px.wp_nil, Px.wp_cons, Px.fz_nil, Px.fz_lst, Px.fz_dat, Px.fz_dct, Px.fz_seq, Px.fz_none, Px.tl_nil, Px.tl_cons, Px.ent_no, Px.ent_own, Px.ent_seq, Px.argN_no, Px.argN_own, Px.argN_seq, Px.endO_rt, Px.endO_nx, Px.endO_rf, Px.endO_srt, Px.endO_srf, Px.endO_ort, Px.endO_onx, Px.int_ev, Px.str_ev, Px.bl_ev, Px.non_ev, Px.var_ev, Px.varE_zd, Px.varE_zl, Px.consV_some, Px.varE_s, Px.op_ev, Px.nil_ev, Px.cons_ev, Px.tup_ev, Px.lst_ev, Px.cb_ev, Px.asB_b, Px.andV_ev, Px.orV_ev, Px.notV_ev, Px.of_ev, Px.and_ev, Px.or_ev, Px.not_ev, Px.yes_ev, Px.ttmp_ev, Px.ifE_ev, Px.tmp_ev, Px.flat_int, Px.flat_str, Px.flat_bool, Px.flat_none, Px.asL_l, Px.asT_t, Px.asI_i, Px.asK_d, Px.ofF_ev, Px.flst_ev, Px.lc_ev, Px.asD_d, Px.asF_f, Px.call_ev, Px.fcall_ev, Px.isi_ev, Px.bits_ev, Px.dget_ev, Px.din_ev, Px.rev_ev, Px.orT_ev, Px.qnone_lo, Px.qsome_lo, Px.sl_ev, Px.slL_f, Px.slT_f, Px.lenSeq_ev, Px.neg_ev, Px.add_f, Px.sub_f, Px.and_f, Px.or_f, Px.lt_f, Px.le_f, Px.gt_f, Px.ge_f, Px.eq_f, Px.ne_f, Px.flatQ_i, Px.flatQ_s, Px.flatQ_b, Px.isN_f, Px.notN_f, Px.ix_list, Px.ix_tuple, Px.len_f, Px.lenT_f, Px.tup_f, Px.tupT_f, Px.lst_f, Px.lstT_f, Px.max_f, Px.min_f, Px.int_f, Px.itList_ev, Px.itTup_ev, Px.itEnumT_ev, Px.itRng1_ev, Px.itVals_ev, Px.name_ev, Px.gtup_ev, Px.glst_ev, Px.stN_nil, Px.stN_cons, Px.seqK_nx, Px.seqK_rt, Px.seqK_rf, Px.seqK_bk, Px.seqK_ct, Px.seq_run, Px.next_run, Px.set_run, Px.setF_run, Px.asg_run, Px.ret_run, Px.retF_run, Px.ifS_run, Px.drop_run, Px.newK_run, Px.par2F_run, Px.forS_run, Px.whileS_run, Px.turnK_nx, Px.turnK_ct, Px.turnK_bk, Px.turnK_rt, Px.turnK_rf, Px.for_nil, Px.lcA_nil, Option.bind_some, List.length_cons, List.length_nil, List.length_map, if_true, reduceCtorEq, List.replicate_succ, List.replicate_zero, Nat.reduceAdd, Nat.reduceSub, Nat.reduceLeDiff, evXs_cons, evXs_nil]
    rw [tg, Option.bind_some, body]
    by_cases c : decide (0 < i) = true ∧ (valD ks (.inr q.1)).isSome = false
    · rw [if_pos c]
      exact .inl ⟨q.1, _, rfl⟩
    · rw [if_neg c]
      exact ih
end Nt

set_option Elab.async false
set_option linter.all false
set_option autoImplicit false
set_option maxRecDepth 100000
set_option maxHeartbeats 4000000
/-! led, of what it lets in: the counts. -/
namespace Nt
open PySem PySem.Spec PyProof.Rows L2 Lw Px
/-- all values are whole numbers -/
def IntV (ks : List (Key × PyData)) : Prop := ∀ p ∈ ks, ∃ i : Int, p.2 = .int i
theorem intv_put {ks : List (Key × PyData)} (h : IntV ks) (k : Key) (i : Int) : IntV (putD ks k (.int i)) := by
  intro p hp
  unfold putD at hp
  split at hp
  · obtain ⟨q, hq, e⟩ := List.mem_map.mp hp
    split at e
    · exact ⟨i, by rw [← e]⟩
    · rw [← e]; exact h q hq
  · rcases List.mem_append.mp hp with hp | hp
    · exact h p hp
    · rw [List.mem_singleton.mp hp]; exact ⟨i, rfl⟩
theorem intv_val : ∀ {ks : List (Key × PyData)} {k : Key} {d : PyData}, IntV ks → valD ks k = some d → ∃ i : Int, d = .int i
  | [], k, d, _, e => nomatch e
  | p :: ks, k, d, h, e => by
    unfold valD at e
    split at e
    · cases e
      exact h p List.mem_cons_self
    · exact intv_val (ks := ks) (fun q hq => h q (List.mem_cons_of_mem _ hq)) e
theorem cnt_dc (v0 v1 v2 v3 v4 v7 v8 v9 v10 : Option AV) (zs : List Str) : ∀ (rs : List (Str × Int)) (acc : List (Key × PyData)), IntV acc →
    ∃ ks, dcA (Xg.tup [6, 11]) (Xe.var 6) (Xe.ifE (Xt.of (Xe.op (oIn false) (Xe.var 6) (Xe.var 5))) (Xe.int 0) (Xe.var 11)) [6, 11] (rs.map partD) acc [v0, v1, v2, v3, v4, some (.dat (strsD zs)), none, v7, v8, v9, v10, none] =
      some (ks, [v0, v1, v2, v3, v4, some (.dat (strsD zs)), none, v7, v8, v9, v10, none]) ∧ IntV ks ∧ ks.length ≤ acc.length + rs.length
  | [], acc, h => ⟨acc, rfl, h, Nat.le_refl _⟩
  | q :: rs, acc, h => by
    have hi : (oIn false).f (.str q.1) (strsD zs) = some (.bool (decide (q.1 ∈ zs))) := by
      unfold strsD
      rw [in_f (flat_str) (flat_strs zs), inQ_str]
      rfl
    rw [List.map_cons, dcA_cons]
    show ∃ ks, (((Xg.tup [6, 11]).ev (.tuple [.str q.1, .int q.2]) _).bind _) = _ ∧ _
    by_cases c : q.1 ∈ zs
    · obtain ⟨ks, e, h1, h2⟩ := cnt_dc v0 v1 v2 v3 v4 v7 v8 v9 v10 zs rs (putD acc (.inr q.1) (.int 0)) (intv_put h _ _)
      refine ⟨ks, ?_, h1, ?_⟩
      · simp only [Px.gt_zero, Px.gt_succ, Px.st_zero, Px.st_succ, Px.wp_nil, Px.wp_cons, Px.fz_nil, Px.fz_lst, Px.fz_dat, Px.fz_dct, Px.fz_seq, Px.fz_none, Px.tl_nil, Px.tl_cons, Px.ent_no, Px.ent_own, Px.ent_seq, Px.argN_no, Px.argN_own, Px.argN_seq, Px.endO_rt, Px.endO_nx, Px.endO_rf, Px.endO_srt, Px.endO_srf, Px.endO_ort, Px.endO_onx, Px.int_ev, Px.str_ev, Px.bl_ev, Px.non_ev, Px.var_ev, Px.varE_zd, Px.varE_zl, Px.consV_some, Px.varE_s, Px.op_ev, Px.nil_ev, Px.cons_ev, Px.tup_ev, Px.lst_ev, Px.cb_ev, Px.asB_b, Px.andV_ev, Px.orV_ev, Px.notV_ev, Px.of_ev, Px.and_ev, Px.or_ev, Px.not_ev, Px.yes_ev, Px.ttmp_ev, Px.ifE_ev, Px.tmp_ev, Px.flat_int, Px.flat_str, Px.flat_bool, Px.flat_none, Px.asL_l, Px.asT_t, Px.asI_i, Px.asK_d, Px.ofF_ev, Px.flst_ev, Px.lc_ev, Px.asD_d, Px.asF_f, Px.call_ev, Px.fcall_ev, Px.isi_ev, Px.bits_ev, Px.dget_ev, Px.din_ev, Px.rev_ev, Px.orT_ev, Px.qnone_lo, Px.qsome_lo, Px.sl_ev, Px.slL_f, Px.slT_f, Px.lenSeq_ev, Px.neg_ev, Px.add_f, Px.sub_f, Px.and_f, Px.or_f, Px.lt_f, Px.le_f, Px.gt_f, Px.ge_f, Px.eq_f, Px.ne_f, Px.flatQ_i, Px.flatQ_s, Px.flatQ_b, Px.isN_f, Px.notN_f, Px.ix_list, Px.ix_tuple, Px.len_f, Px.lenT_f, Px.tup_f, Px.tupT_f, Px.lst_f, Px.lstT_f, Px.max_f, Px.min_f, Px.int_f, Px.itList_ev, Px.itTup_ev, Px.itEnumT_ev, Px.itRng1_ev, Px.itVals_ev, Px.name_ev, Px.gtup_ev, Px.glst_ev, Px.stN_nil, Px.stN_cons, Px.seqK_nx, Px.seqK_rt, Px.seqK_rf, Px.seqK_bk, Px.seqK_ct, Px.seq_run, Px.next_run, Px.set_run, Px.setF_run, Px.asg_run, Px.ret_run, Px.retF_run, Px.ifS_run, Px.drop_run, Px.newK_run, Px.par2F_run, Px.forS_run, Px.whileS_run, Px.turnK_nx, Px.turnK_ct, Px.turnK_bk, Px.turnK_rt, Px.turnK_rf, Px.for_nil, Px.lcA_nil, Option.bind_some, List.length_cons, List.length_nil, List.length_map, if_true, reduceCtorEq, List.replicate_succ, List.replicate_zero, Nat.reduceAdd, Nat.reduceSub, Nat.reduceLeDiff, key_s, hi, c, decide_true, if_true, e]
      · have := putD_len acc (.inr q.1) (.int 0)
        rw [List.length_cons]
        omega
    · obtain ⟨ks, e, h1, h2⟩ := cnt_dc v0 v1 v2 v3 v4 v7 v8 v9 v10 zs rs (putD acc (.inr q.1) (.int q.2)) (intv_put h _ _)
      refine ⟨ks, ?_, h1, ?_⟩
      · simp only [Px.gt_zero, Px.gt_succ, Px.st_zero, Px.st_succ, Px.wp_nil, Px.wp_cons, Px.fz_nil, Px.fz_lst, Px.fz_dat, Px.fz_dct, Px.fz_seq, Px.fz_none, Px.tl_nil, Px.tl_cons, Px.ent_no, Px.ent_own, Px.ent_seq, Px.argN_no, Px.argN_own, Px.argN_seq, Px.endO_rt, Px.endO_nx, Px.endO_rf, Px.endO_srt, Px.endO_srf, Px.endO_ort, Px.endO_onx, Px.int_ev, Px.str_ev, Px.bl_ev, Px.non_ev, Px.var_ev, Px.varE_zd, Px.varE_zl, Px.consV_some, Px.varE_s, Px.op_ev, Px.nil_ev, Px.cons_ev, Px.tup_ev, Px.lst_ev, Px.cb_ev, Px.asB_b, Px.andV_ev, Px.orV_ev, Px.notV_ev, Px.of_ev, Px.and_ev, Px.or_ev, Px.not_ev, Px.yes_ev, Px.ttmp_ev, Px.ifE_ev, Px.tmp_ev, Px.flat_int, Px.flat_str, Px.flat_bool, Px.flat_none, Px.asL_l, Px.asT_t, Px.asI_i, Px.asK_d, Px.ofF_ev, Px.flst_ev, Px.lc_ev, Px.asD_d, Px.asF_f, Px.call_ev, Px.fcall_ev, Px.isi_ev, Px.bits_ev, Px.dget_ev, Px.din_ev, Px.rev_ev, Px.orT_ev, Px.qnone_lo, Px.qsome_lo, Px.sl_ev, Px.slL_f, Px.slT_f, Px.lenSeq_ev, Px.neg_ev, Px.add_f, Px.sub_f, Px.and_f, Px.or_f, Px.lt_f, Px.le_f, Px.gt_f, Px.ge_f, Px.eq_f, Px.ne_f, Px.flatQ_i, Px.flatQ_s, Px.flatQ_b, Px.isN_f, Px.notN_f, Px.ix_list, Px.ix_tuple, Px.len_f, Px.lenT_f, Px.tup_f, Px.tupT_f, Px.lst_f, Px.lstT_f, Px.max_f, Px.min_f, Px.int_f, Px.itList_ev, Px.itTup_ev, Px.itEnumT_ev, Px.itRng1_ev, Px.itVals_ev, Px.name_ev, Px.gtup_ev, Px.glst_ev, Px.stN_nil, Px.stN_cons, Px.seqK_nx, Px.seqK_rt, Px.seqK_rf, Px.seqK_bk, Px.seqK_ct, Px.seq_run, Px.next_run, Px.set_run, Px.setF_run, Px.asg_run, Px.ret_run, Px.retF_run, Px.ifS_run, Px.drop_run, Px.newK_run, Px.par2F_run, Px.forS_run, Px.whileS_run, Px.turnK_nx, Px.turnK_ct, Px.turnK_bk, Px.turnK_rt, Px.turnK_rf, Px.for_nil, Px.lcA_nil, Option.bind_some, List.length_cons, List.length_nil, List.length_map, if_true, reduceCtorEq, List.replicate_succ, List.replicate_zero, Nat.reduceAdd, Nat.reduceSub, Nat.reduceLeDiff, key_s, hi, c, decide_false, Bool.false_eq_true, if_false, e]
      · have := putD_len acc (.inr q.1) (.int q.2)
        rw [List.length_cons]
        omega
abbrev addBody : Xs := Xs.ifS (Xt.of (Xe.dinO false (Xe.var 8) 10)) (Xs.augD 10 oAdd (Xe.var 8) (Xe.var 9)) Xs.next
theorem add_loop (v0 v1 v2 v3 v4 v5 v6 v7 v11 : Option AV) : ∀ (zs : List Str) (is : List Int) (ks : List (Key × PyData)), IntV ks → ks.length + is.length ≤ 1000 →
    ∃ ks', forA (Xg.tup [8, 9]) addBody [8, 9] (zipD [zs.map .str, is.map .int]) [v0, v1, v2, v3, v4, v5, v6, v7, none, none, some (.dct ks), v11] = some (.nx [v0, v1, v2, v3, v4, v5, v6, v7, none, none, some (.dct ks'), v11])
  | [], is, ks, _, _ => ⟨ks, by
    rw [show zipD [([] : List Str).map .str, is.map .int] = [] from by cases is <;> rfl]
    rfl⟩
  | z :: zs, [], ks, _, _ => ⟨ks, by
    rw [show zipD [(z :: zs).map .str, ([] : List Int).map .int] = [] from by
      unfold zipD
      rw [show minL [(z :: zs).map .str, ([] : List Int).map PyData.int] = 0 from by
        show min _ 0 = 0
        omega]
      rfl]
    rfl⟩
  | z :: zs, i :: is, ks, h, hl => by
    rw [List.map_cons, List.map_cons, zip2_cons, for_cons]
    rw [List.length_cons] at hl
    have dn : (Xe.dinO false (Xe.var 8) 10).ev [v0, v1, v2, v3, v4, v5, v6, v7, some (.dat (.str z)), some (.dat (.int i)), some (.dct ks), v11] = some (.bool (valD ks (.inr z)).isSome, [v0, v1, v2, v3, v4, v5, v6, v7, some (.dat (.str z)), some (.dat (.int i)), some (.dct ks), v11]) :=
      dinO_ev (ks := ks) (kd := .str z) (kk := .inr z) (by simp only [Px.gt_zero, Px.gt_succ, Px.st_zero, Px.st_succ, Px.wp_nil, Px.wp_cons, Px.fz_nil, Px.fz_lst, Px.fz_dat, Px.fz_dct, Px.fz_seq, Px.fz_none, Px.tl_nil, Px.tl_cons, Px.ent_no, Px.ent_own, Px.ent_seq, Px.argN_no, Px.argN_own, Px.argN_seq, Px.endO_rt, Px.endO_nx, Px.endO_rf, Px.endO_srt, Px.endO_srf, Px.endO_ort, Px.endO_onx, Px.int_ev, Px.str_ev, Px.bl_ev, Px.non_ev, Px.var_ev, Px.varE_zd, Px.varE_zl, Px.consV_some, Px.varE_s, Px.op_ev, Px.nil_ev, Px.cons_ev, Px.tup_ev, Px.lst_ev, Px.cb_ev, Px.asB_b, Px.andV_ev, Px.orV_ev, Px.notV_ev, Px.of_ev, Px.and_ev, Px.or_ev, Px.not_ev, Px.yes_ev, Px.ttmp_ev, Px.ifE_ev, Px.tmp_ev, Px.flat_int, Px.flat_str, Px.flat_bool, Px.flat_none, Px.asL_l, Px.asT_t, Px.asI_i, Px.asK_d, Px.ofF_ev, Px.flst_ev, Px.lc_ev, Px.asD_d, Px.asF_f, Px.call_ev, Px.fcall_ev, Px.isi_ev, Px.bits_ev, Px.dget_ev, Px.din_ev, Px.rev_ev, Px.orT_ev, Px.qnone_lo, Px.qsome_lo, Px.sl_ev, Px.slL_f, Px.slT_f, Px.lenSeq_ev, Px.neg_ev, Px.add_f, Px.sub_f, Px.and_f, Px.or_f, Px.lt_f, Px.le_f, Px.gt_f, Px.ge_f, Px.eq_f, Px.ne_f, Px.flatQ_i, Px.flatQ_s, Px.flatQ_b, Px.isN_f, Px.notN_f, Px.ix_list, Px.ix_tuple, Px.len_f, Px.lenT_f, Px.tup_f, Px.tupT_f, Px.lst_f, Px.lstT_f, Px.max_f, Px.min_f, Px.int_f, Px.itList_ev, Px.itTup_ev, Px.itEnumT_ev, Px.itRng1_ev, Px.itVals_ev, Px.name_ev, Px.gtup_ev, Px.glst_ev, Px.stN_nil, Px.stN_cons, Px.seqK_nx, Px.seqK_rt, Px.seqK_rf, Px.seqK_bk, Px.seqK_ct, Px.seq_run, Px.next_run, Px.set_run, Px.setF_run, Px.asg_run, Px.ret_run, Px.retF_run, Px.ifS_run, Px.drop_run, Px.newK_run, Px.par2F_run, Px.forS_run, Px.whileS_run, Px.turnK_nx, Px.turnK_ct, Px.turnK_bk, Px.turnK_rt, Px.turnK_rf, Px.for_nil, Px.lcA_nil, Option.bind_some, List.length_cons, List.length_nil, List.length_map, if_true, reduceCtorEq, List.replicate_succ, List.replicate_zero, Nat.reduceAdd, Nat.reduceSub, Nat.reduceLeDiff]) rfl rfl
    cases hv : valD ks (.inr z) with
    | none =>
      obtain ⟨ks', e⟩ := add_loop v0 v1 v2 v3 v4 v5 v6 v7 v11 zs is ks h (by omega)
      refine ⟨ks', ?_⟩
      rw [hv] at dn
      simp only [Px.gt_zero, Px.gt_succ, Px.st_zero, Px.st_succ, Px.wp_nil, Px.wp_cons, Px.fz_nil, Px.fz_lst, Px.fz_dat, Px.fz_dct, Px.fz_seq, Px.fz_none, Px.tl_nil, Px.tl_cons, Px.ent_no, Px.ent_own, Px.ent_seq, Px.argN_no, Px.argN_own, Px.argN_seq, Px.endO_rt, Px.endO_nx, Px.endO_rf, Px.endO_srt, Px.endO_srf, Px.endO_ort, Px.endO_onx, Px.int_ev, Px.str_ev, Px.bl_ev, Px.non_ev, Px.var_ev, Px.varE_zd, Px.varE_zl, Px.consV_some, Px.varE_s, Px.op_ev, Px.nil_ev, Px.cons_ev, Px.tup_ev, Px.lst_ev, Px.cb_ev, Px.asB_b, Px.andV_ev, Px.orV_ev, Px.notV_ev, Px.of_ev, Px.and_ev, Px.or_ev, Px.not_ev, Px.yes_ev, Px.ttmp_ev, Px.ifE_ev, Px.tmp_ev, Px.flat_int, Px.flat_str, Px.flat_bool, Px.flat_none, Px.asL_l, Px.asT_t, Px.asI_i, Px.asK_d, Px.ofF_ev, Px.flst_ev, Px.lc_ev, Px.asD_d, Px.asF_f, Px.call_ev, Px.fcall_ev, Px.isi_ev, Px.bits_ev, Px.dget_ev, Px.din_ev, Px.rev_ev, Px.orT_ev, Px.qnone_lo, Px.qsome_lo, Px.sl_ev, Px.slL_f, Px.slT_f, Px.lenSeq_ev, Px.neg_ev, Px.add_f, Px.sub_f, Px.and_f, Px.or_f, Px.lt_f, Px.le_f, Px.gt_f, Px.ge_f, Px.eq_f, Px.ne_f, Px.flatQ_i, Px.flatQ_s, Px.flatQ_b, Px.isN_f, Px.notN_f, Px.ix_list, Px.ix_tuple, Px.len_f, Px.lenT_f, Px.tup_f, Px.tupT_f, Px.lst_f, Px.lstT_f, Px.max_f, Px.min_f, Px.int_f, Px.itList_ev, Px.itTup_ev, Px.itEnumT_ev, Px.itRng1_ev, Px.itVals_ev, Px.name_ev, Px.gtup_ev, Px.glst_ev, Px.stN_nil, Px.stN_cons, Px.seqK_nx, Px.seqK_rt, Px.seqK_rf, Px.seqK_bk, Px.seqK_ct, Px.seq_run, Px.next_run, Px.set_run, Px.setF_run, Px.asg_run, Px.ret_run, Px.retF_run, Px.ifS_run, Px.drop_run, Px.newK_run, Px.par2F_run, Px.forS_run, Px.whileS_run, Px.turnK_nx, Px.turnK_ct, Px.turnK_bk, Px.turnK_rt, Px.turnK_rf, Px.for_nil, Px.lcA_nil, Option.bind_some, List.length_cons, List.length_nil, List.length_map, if_true, reduceCtorEq, List.replicate_succ, List.replicate_zero, Nat.reduceAdd, Nat.reduceSub, Nat.reduceLeDiff, dn, Option.isSome_none, Bool.false_eq_true, if_false, e]
    | some d =>
      obtain ⟨j, rfl⟩ := intv_val h hv
      have hp := putD_len ks (.inr z) (.int (j + i))
      obtain ⟨ks', e⟩ := add_loop v0 v1 v2 v3 v4 v5 v6 v7 v11 zs is (putD ks (.inr z) (.int (j + i))) (intv_put h _ _) (by omega)
      refine ⟨ks', ?_⟩
      rw [hv] at dn
      have au : (Xs.augD 10 oAdd (Xe.var 8) (Xe.var 9)).run [v0, v1, v2, v3, v4, v5, v6, v7, some (.dat (.str z)), some (.dat (.int i)), some (.dct ks), v11] = some (.nx [v0, v1, v2, v3, v4, v5, v6, v7, some (.dat (.str z)), some (.dat (.int i)), some (.dct (putD ks (.inr z) (.int (j + i)))), v11]) :=
        augD_run (ks := ks) (kd := .str z) (kk := .inr z) (d := .int j) (yd := .int i) (c := .int (j + i)) rfl (by simp only [Px.gt_zero, Px.gt_succ, Px.st_zero, Px.st_succ, Px.wp_nil, Px.wp_cons, Px.fz_nil, Px.fz_lst, Px.fz_dat, Px.fz_dct, Px.fz_seq, Px.fz_none, Px.tl_nil, Px.tl_cons, Px.ent_no, Px.ent_own, Px.ent_seq, Px.argN_no, Px.argN_own, Px.argN_seq, Px.endO_rt, Px.endO_nx, Px.endO_rf, Px.endO_srt, Px.endO_srf, Px.endO_ort, Px.endO_onx, Px.int_ev, Px.str_ev, Px.bl_ev, Px.non_ev, Px.var_ev, Px.varE_zd, Px.varE_zl, Px.consV_some, Px.varE_s, Px.op_ev, Px.nil_ev, Px.cons_ev, Px.tup_ev, Px.lst_ev, Px.cb_ev, Px.asB_b, Px.andV_ev, Px.orV_ev, Px.notV_ev, Px.of_ev, Px.and_ev, Px.or_ev, Px.not_ev, Px.yes_ev, Px.ttmp_ev, Px.ifE_ev, Px.tmp_ev, Px.flat_int, Px.flat_str, Px.flat_bool, Px.flat_none, Px.asL_l, Px.asT_t, Px.asI_i, Px.asK_d, Px.ofF_ev, Px.flst_ev, Px.lc_ev, Px.asD_d, Px.asF_f, Px.call_ev, Px.fcall_ev, Px.isi_ev, Px.bits_ev, Px.dget_ev, Px.din_ev, Px.rev_ev, Px.orT_ev, Px.qnone_lo, Px.qsome_lo, Px.sl_ev, Px.slL_f, Px.slT_f, Px.lenSeq_ev, Px.neg_ev, Px.add_f, Px.sub_f, Px.and_f, Px.or_f, Px.lt_f, Px.le_f, Px.gt_f, Px.ge_f, Px.eq_f, Px.ne_f, Px.flatQ_i, Px.flatQ_s, Px.flatQ_b, Px.isN_f, Px.notN_f, Px.ix_list, Px.ix_tuple, Px.len_f, Px.lenT_f, Px.tup_f, Px.tupT_f, Px.lst_f, Px.lstT_f, Px.max_f, Px.min_f, Px.int_f, Px.itList_ev, Px.itTup_ev, Px.itEnumT_ev, Px.itRng1_ev, Px.itVals_ev, Px.name_ev, Px.gtup_ev, Px.glst_ev, Px.stN_nil, Px.stN_cons, Px.seqK_nx, Px.seqK_rt, Px.seqK_rf, Px.seqK_bk, Px.seqK_ct, Px.seq_run, Px.next_run, Px.set_run, Px.setF_run, Px.asg_run, Px.ret_run, Px.retF_run, Px.ifS_run, Px.drop_run, Px.newK_run, Px.par2F_run, Px.forS_run, Px.whileS_run, Px.turnK_nx, Px.turnK_ct, Px.turnK_bk, Px.turnK_rt, Px.turnK_rf, Px.for_nil, Px.lcA_nil, Option.bind_some, List.length_cons, List.length_nil, List.length_map, if_true, reduceCtorEq, List.replicate_succ, List.replicate_zero, Nat.reduceAdd, Nat.reduceSub, Nat.reduceLeDiff]) rfl hv (by simp only [Px.gt_zero, Px.gt_succ, Px.st_zero, Px.st_succ, Px.wp_nil, Px.wp_cons, Px.fz_nil, Px.fz_lst, Px.fz_dat, Px.fz_dct, Px.fz_seq, Px.fz_none, Px.tl_nil, Px.tl_cons, Px.ent_no, Px.ent_own, Px.ent_seq, Px.argN_no, Px.argN_own, Px.argN_seq, Px.endO_rt, Px.endO_nx, Px.endO_rf, Px.endO_srt, Px.endO_srf, Px.endO_ort, Px.endO_onx, Px.int_ev, Px.str_ev, Px.bl_ev, Px.non_ev, Px.var_ev, Px.varE_zd, Px.varE_zl, Px.consV_some, Px.varE_s, Px.op_ev, Px.nil_ev, Px.cons_ev, Px.tup_ev, Px.lst_ev, Px.cb_ev, Px.asB_b, Px.andV_ev, Px.orV_ev, Px.notV_ev, Px.of_ev, Px.and_ev, Px.or_ev, Px.not_ev, Px.yes_ev, Px.ttmp_ev, Px.ifE_ev, Px.tmp_ev, Px.flat_int, Px.flat_str, Px.flat_bool, Px.flat_none, Px.asL_l, Px.asT_t, Px.asI_i, Px.asK_d, Px.ofF_ev, Px.flst_ev, Px.lc_ev, Px.asD_d, Px.asF_f, Px.call_ev, Px.fcall_ev, Px.isi_ev, Px.bits_ev, Px.dget_ev, Px.din_ev, Px.rev_ev, Px.orT_ev, Px.qnone_lo, Px.qsome_lo, Px.sl_ev, Px.slL_f, Px.slT_f, Px.lenSeq_ev, Px.neg_ev, Px.add_f, Px.sub_f, Px.and_f, Px.or_f, Px.lt_f, Px.le_f, Px.gt_f, Px.ge_f, Px.eq_f, Px.ne_f, Px.flatQ_i, Px.flatQ_s, Px.flatQ_b, Px.isN_f, Px.notN_f, Px.ix_list, Px.ix_tuple, Px.len_f, Px.lenT_f, Px.tup_f, Px.tupT_f, Px.lst_f, Px.lstT_f, Px.max_f, Px.min_f, Px.int_f, Px.itList_ev, Px.itTup_ev, Px.itEnumT_ev, Px.itRng1_ev, Px.itVals_ev, Px.name_ev, Px.gtup_ev, Px.glst_ev, Px.stN_nil, Px.stN_cons, Px.seqK_nx, Px.seqK_rt, Px.seqK_rf, Px.seqK_bk, Px.seqK_ct, Px.seq_run, Px.next_run, Px.set_run, Px.setF_run, Px.asg_run, Px.ret_run, Px.retF_run, Px.ifS_run, Px.drop_run, Px.newK_run, Px.par2F_run, Px.forS_run, Px.whileS_run, Px.turnK_nx, Px.turnK_ct, Px.turnK_bk, Px.turnK_rt, Px.turnK_rf, Px.for_nil, Px.lcA_nil, Option.bind_some, List.length_cons, List.length_nil, List.length_map, if_true, reduceCtorEq, List.replicate_succ, List.replicate_zero, Nat.reduceAdd, Nat.reduceSub, Nat.reduceLeDiff]) (by omega) rfl
      simp only [Px.gt_zero, Px.gt_succ, Px.st_zero, Px.st_succ, Px.wp_nil, Px.wp_cons, Px.fz_nil, Px.fz_lst, Px.fz_dat, Px.fz_dct, Px.fz_seq, Px.fz_none, Px.tl_nil, Px.tl_cons, Px.ent_no, Px.ent_own, Px.ent_seq, Px.argN_no, Px.argN_own, Px.argN_seq, Px.endO_rt, Px.endO_nx, Px.endO_rf, Px.endO_srt, Px.endO_srf, Px.endO_ort, Px.endO_onx, Px.int_ev, Px.str_ev, Px.bl_ev, Px.non_ev, Px.var_ev, Px.varE_zd, Px.varE_zl, Px.consV_some, Px.varE_s, Px.op_ev, Px.nil_ev, Px.cons_ev, Px.tup_ev, Px.lst_ev, Px.cb_ev, Px.asB_b, Px.andV_ev, Px.orV_ev, Px.notV_ev, Px.of_ev, Px.and_ev, Px.or_ev, Px.not_ev, Px.yes_ev, Px.ttmp_ev, Px.ifE_ev, Px.tmp_ev, Px.flat_int, Px.flat_str, Px.flat_bool, Px.flat_none, Px.asL_l, Px.asT_t, Px.asI_i, Px.asK_d, Px.ofF_ev, Px.flst_ev, Px.lc_ev, Px.asD_d, Px.asF_f, Px.call_ev, Px.fcall_ev, Px.isi_ev, Px.bits_ev, Px.dget_ev, Px.din_ev, Px.rev_ev, Px.orT_ev, Px.qnone_lo, Px.qsome_lo, Px.sl_ev, Px.slL_f, Px.slT_f, Px.lenSeq_ev, Px.neg_ev, Px.add_f, Px.sub_f, Px.and_f, Px.or_f, Px.lt_f, Px.le_f, Px.gt_f, Px.ge_f, Px.eq_f, Px.ne_f, Px.flatQ_i, Px.flatQ_s, Px.flatQ_b, Px.isN_f, Px.notN_f, Px.ix_list, Px.ix_tuple, Px.len_f, Px.lenT_f, Px.tup_f, Px.tupT_f, Px.lst_f, Px.lstT_f, Px.max_f, Px.min_f, Px.int_f, Px.itList_ev, Px.itTup_ev, Px.itEnumT_ev, Px.itRng1_ev, Px.itVals_ev, Px.name_ev, Px.gtup_ev, Px.glst_ev, Px.stN_nil, Px.stN_cons, Px.seqK_nx, Px.seqK_rt, Px.seqK_rf, Px.seqK_bk, Px.seqK_ct, Px.seq_run, Px.next_run, Px.set_run, Px.setF_run, Px.asg_run, Px.ret_run, Px.retF_run, Px.ifS_run, Px.drop_run, Px.newK_run, Px.par2F_run, Px.forS_run, Px.whileS_run, Px.turnK_nx, Px.turnK_ct, Px.turnK_bk, Px.turnK_rt, Px.turnK_rf, Px.for_nil, Px.lcA_nil, Option.bind_some, List.length_cons, List.length_nil, List.length_map, if_true, reduceCtorEq, List.replicate_succ, List.replicate_zero, Nat.reduceAdd, Nat.reduceSub, Nat.reduceLeDiff, dn, Option.isSome_some, if_true, au, e]
def ledOk (r : Option RX) : Prop := (∃ d, r = some (.ok (.dat d))) ∨ ∃ z : Str, r = some (.ex ("Gone", [("place", .str z)]))
theorem led_is {qs rs : List (Str × Int)} {x1 x2 hf : PyData} {is : List Int} (hq : qs.length ≤ 100) (hr : rs.length ≤ 100) (hl : is.length = qs.length)
    (g1 : gd 20 (.tuple [.tuple (qs.map partD), x1]) = true) (g2 : gd 20 (.tuple [.tuple (rs.map partD), x2]) = true) (w1 : netWrong (.tuple [.tuple (qs.map partD), x1]) = .none) (w2 : netWrong (.tuple [.tuple (rs.map partD), x2]) = .none)
    (hw : f_heap_wrong .no [.tuple [.tuple (qs.map partD), x1], .tuple (is.map .int)] = some (.dat .none, [])) :
    ledOk (fx_led [.tuple [.tuple (qs.map partD), x1], .tuple [.tuple (rs.map partD), x2], .tuple (is.map .int), dctD []]) := by
  have c1 := check_is g1
  have c2 := check_is g2
  have c3 := check_heap_is hw
  rw [w1] at c1
  rw [w2] at c2
  obtain ⟨ks, n1⟩ := numbers_is hr
  obtain ⟨one, h1⟩ : ∃ one, one = PyData.tuple [.tuple (qs.map partD), x1] := ⟨_, rfl⟩
  obtain ⟨two, h2⟩ : ∃ two, two = PyData.tuple [.tuple (rs.map partD), x2] := ⟨_, rfl⟩
  obtain ⟨st, h3⟩ : ∃ st, st = PyData.tuple (is.map .int) := ⟨_, rfl⟩
  have o1 : oIx.f one (.int 0) = some (.tuple (qs.map partD)) := by rw [h1, Px.ix_tuple]; exact atI_zero _ _
  have o2 : oIx.f two (.int 0) = some (.tuple (rs.map partD)) := by rw [h2, Px.ix_tuple]; exact atI_zero _ _
  have im := img_lc (some (.dat one)) (some (.dat two)) (some (.dat st)) (some (.dat (dctD ks))) none none none none none qs
  rw [← h1, ← h3] at c3
  rw [← h1] at c1
  rw [← h2] at c2
  rw [← h1, ← h2, ← h3]
  have q5 : qs.length ≤ 50000 := by omega
  have r5 : rs.length ≤ 50000 := by omega
  have aS : Px.seqD st = some (is.map .int) := by rw [h3]; rfl
  have es : PyData.list ((qs.map (·.1)).map .str) = strsD (qs.map (·.1)) := rfl
  have sS : ∀ zs : List Str, Px.seqD (strsD zs) = some (zs.map .str) := fun _ => rfl
  obtain ⟨cs, dc, iv, cl⟩ := cnt_dc (some (.dat one)) (some (.dat two)) (some (.dat st)) (some (.dat (dctD []))) (some (.dat (dctD ks))) none none none none (qs.map (·.1)) rs [] (fun p hp => nomatch hp)
  obtain ⟨cs', ad⟩ := add_loop (some (.dat one)) (some (.dat two)) (some (.dat st)) (some (.dat (dctD []))) (some (.dat (dctD ks))) (some (.dat (strsD (qs.map (·.1))))) none none none (qs.map (·.1)) is cs iv (by rw [List.length_nil] at cl; omega)
  have vd : ∀ (u0 u1 u2 u3 u4 u5 u6 u7 u8 u9 u11 : Option AV), (Xe.varD 10).ev [u0, u1, u2, u3, u4, u5, u6, u7, u8, u9, some (.dct cs'), u11] = some (dctD cs', [u0, u1, u2, u3, u4, u5, u6, u7, u8, u9, some (.dat (dctD cs')), u11]) := fun _ _ _ _ _ _ _ _ _ _ _ => varD_ev rfl
  unfold fx_led
  rw [fnX_eq (by rfl)]
  unfold bx_led
  unfold addBody at ad
  rcases gone_loop (some (.dat one)) (some (.dat two)) (some (.dat st)) (some (.dat (dctD []))) (some (.dat (strsD (qs.map (·.1))))) none none ks qs is with ⟨z, a, eg⟩ | eg
  · right
    refine ⟨z, ?_⟩
    unfold goneBody at eg
    simp only [Px.gt_zero, Px.gt_succ, Px.st_zero, Px.st_succ, Px.wp_nil, Px.wp_cons, Px.fz_nil, Px.fz_lst, Px.fz_dat, Px.fz_dct, Px.fz_seq, Px.fz_none, Px.tl_nil, Px.tl_cons, Px.ent_no, Px.ent_own, Px.ent_seq, Px.argN_no, Px.argN_own, Px.argN_seq, Px.endO_rt, Px.endO_nx, Px.endO_rf, Px.endO_srt, Px.endO_srf, Px.endO_ort, Px.endO_onx, Px.int_ev, Px.str_ev, Px.bl_ev, Px.non_ev, Px.var_ev, Px.varE_zd, Px.varE_zl, Px.consV_some, Px.varE_s, Px.op_ev, Px.nil_ev, Px.cons_ev, Px.tup_ev, Px.lst_ev, Px.cb_ev, Px.asB_b, Px.andV_ev, Px.orV_ev, Px.notV_ev, Px.of_ev, Px.and_ev, Px.or_ev, Px.not_ev, Px.yes_ev, Px.ttmp_ev, Px.ifE_ev, Px.tmp_ev, Px.flat_int, Px.flat_str, Px.flat_bool, Px.flat_none, Px.asL_l, Px.asT_t, Px.asI_i, Px.asK_d, Px.ofF_ev, Px.flst_ev, Px.lc_ev, Px.asD_d, Px.asF_f, Px.call_ev, Px.fcall_ev, Px.isi_ev, Px.bits_ev, Px.dget_ev, Px.din_ev, Px.rev_ev, Px.orT_ev, Px.qnone_lo, Px.qsome_lo, Px.sl_ev, Px.slL_f, Px.slT_f, Px.lenSeq_ev, Px.neg_ev, Px.add_f, Px.sub_f, Px.and_f, Px.or_f, Px.lt_f, Px.le_f, Px.gt_f, Px.ge_f, Px.eq_f, Px.ne_f, Px.flatQ_i, Px.flatQ_s, Px.flatQ_b, Px.isN_f, Px.notN_f, Px.ix_list, Px.ix_tuple, Px.len_f, Px.lenT_f, Px.tup_f, Px.tupT_f, Px.lst_f, Px.lstT_f, Px.max_f, Px.min_f, Px.int_f, Px.itList_ev, Px.itTup_ev, Px.itEnumT_ev, Px.itRng1_ev, Px.itVals_ev, Px.name_ev, Px.gtup_ev, Px.glst_ev, Px.stN_nil, Px.stN_cons, Px.seqK_nx, Px.seqK_rt, Px.seqK_rf, Px.seqK_bk, Px.seqK_ct, Px.seq_run, Px.next_run, Px.set_run, Px.setF_run, Px.asg_run, Px.ret_run, Px.retF_run, Px.ifS_run, Px.drop_run, Px.newK_run, Px.par2F_run, Px.forS_run, Px.whileS_run, Px.turnK_nx, Px.turnK_ct, Px.turnK_bk, Px.turnK_rt, Px.turnK_rf, Px.for_nil, Px.lcA_nil, Option.bind_some, List.length_cons, List.length_nil, List.length_map, if_true, reduceCtorEq, List.replicate_succ, List.replicate_zero, Nat.reduceAdd, Nat.reduceSub, Nat.reduceLeDiff, -Px.ix_tuple, yseq_run, yof_run, yif_run, ydrop_run, yfor_run, c1, c2, c3, dropK_ok, seqX_nx, seqX_ex, isNoneD, if_true, o1, o2, n1, im, q5, es, itZip_ev, allSeq_cons, allSeq_nil, Px.seqD_t, sS, aS, List.length_cons, List.length_nil, Nat.reduceAdd, eg, outX_ex]
  · left
    unfold goneBody at eg
    refine ⟨.tuple (cs'.map (·.2)), ?_⟩
    simp only [Px.gt_zero, Px.gt_succ, Px.st_zero, Px.st_succ, Px.wp_nil, Px.wp_cons, Px.fz_nil, Px.fz_lst, Px.fz_dat, Px.fz_dct, Px.fz_seq, Px.fz_none, Px.tl_nil, Px.tl_cons, Px.ent_no, Px.ent_own, Px.ent_seq, Px.argN_no, Px.argN_own, Px.argN_seq, Px.endO_rt, Px.endO_nx, Px.endO_rf, Px.endO_srt, Px.endO_srf, Px.endO_ort, Px.endO_onx, Px.int_ev, Px.str_ev, Px.bl_ev, Px.non_ev, Px.var_ev, Px.varE_zd, Px.varE_zl, Px.consV_some, Px.varE_s, Px.op_ev, Px.nil_ev, Px.cons_ev, Px.tup_ev, Px.lst_ev, Px.cb_ev, Px.asB_b, Px.andV_ev, Px.orV_ev, Px.notV_ev, Px.of_ev, Px.and_ev, Px.or_ev, Px.not_ev, Px.yes_ev, Px.ttmp_ev, Px.ifE_ev, Px.tmp_ev, Px.flat_int, Px.flat_str, Px.flat_bool, Px.flat_none, Px.asL_l, Px.asT_t, Px.asI_i, Px.asK_d, Px.ofF_ev, Px.flst_ev, Px.lc_ev, Px.asD_d, Px.asF_f, Px.call_ev, Px.fcall_ev, Px.isi_ev, Px.bits_ev, Px.dget_ev, Px.din_ev, Px.rev_ev, Px.orT_ev, Px.qnone_lo, Px.qsome_lo, Px.sl_ev, Px.slL_f, Px.slT_f, Px.lenSeq_ev, Px.neg_ev, Px.add_f, Px.sub_f, Px.and_f, Px.or_f, Px.lt_f, Px.le_f, Px.gt_f, Px.ge_f, Px.eq_f, Px.ne_f, Px.flatQ_i, Px.flatQ_s, Px.flatQ_b, Px.isN_f, Px.notN_f, Px.ix_list, Px.ix_tuple, Px.len_f, Px.lenT_f, Px.tup_f, Px.tupT_f, Px.lst_f, Px.lstT_f, Px.max_f, Px.min_f, Px.int_f, Px.itList_ev, Px.itTup_ev, Px.itEnumT_ev, Px.itRng1_ev, Px.itVals_ev, Px.name_ev, Px.gtup_ev, Px.glst_ev, Px.stN_nil, Px.stN_cons, Px.seqK_nx, Px.seqK_rt, Px.seqK_rf, Px.seqK_bk, Px.seqK_ct, Px.seq_run, Px.next_run, Px.set_run, Px.setF_run, Px.asg_run, Px.ret_run, Px.retF_run, Px.ifS_run, Px.drop_run, Px.newK_run, Px.par2F_run, Px.forS_run, Px.whileS_run, Px.turnK_nx, Px.turnK_ct, Px.turnK_bk, Px.turnK_rt, Px.turnK_rf, Px.for_nil, Px.lcA_nil, Option.bind_some, List.length_cons, List.length_nil, List.length_map, if_true, reduceCtorEq, List.replicate_succ, List.replicate_zero, Nat.reduceAdd, Nat.reduceSub, Nat.reduceLeDiff, -Px.ix_tuple, yseq_run, yof_run, yif_run, ydrop_run, yfor_run, c1, c2, c3, dropK_ok, seqX_nx, seqX_ex, isNoneD, if_true, o1, o2, n1, im, q5, r5, es, itZip_ev, allSeq_cons, allSeq_nil, Px.seqD_t, sS, aS, List.length_cons, List.length_nil, Nat.reduceAdd, eg, setDc_run, dc, ad, tupVals_ev, vd, asK_d, seqX_rt, outX_rt]
end Nt

set_option Elab.async false
set_option linter.all false
set_option autoImplicit false
set_option maxRecDepth 100000
set_option maxHeartbeats 4000000
/-! What is refused, and what is due. -/
namespace Nt
open PySem PySem.Spec PyProof.Rows L2 Lw Px
section
variable {a a' : AE} {z y : Str} {zs : List Str} {i k : Nat} {b : Ys} {r : ExR} {fs : List (Str × PyData)} {x : Out}
theorem try_ex (h : b.run a = some (.ex r a')) (h1 : r.1 ∈ zs) (h2 : i ≠ k) (h3 : i < a'.length) : (Xs.tryK z zs i k b).run a = some (.nx (Px.st (Px.st a' k (some (.exc r.1 r.2))) i none)) := by
  show (b.run a).bind _ = _
  rw [h, Option.bind_some]
  exact if_pos ⟨h1, h2, h3⟩
theorem try_o (h : b.run a = some (.o x)) : (Xs.tryK z zs i k b).run a = some x := by
  show (b.run a).bind _ = _
  rw [h]
  rfl
theorem isx_e (h : gt a i = some (.exc z fs)) (h1 : z ∈ zs) (h2 : y ∈ zs) : (Xe.isx i y zs).ev a = some (.bool (decide (z = y)), a) := by
  show (match gt a i with | some (.exc z _) => _ | some (.dat .none) => _ | _ => _) = _
  rw [h]
  exact if_pos ⟨h1, h2⟩
theorem isx_n (h : gt a i = some (.dat .none)) (h2 : y ∈ zs) : (Xe.isx i y zs).ev a = some (.bool false, a) := by
  show (match gt a i with | some (.exc z _) => _ | some (.dat .none) => _ | _ => _) = _
  rw [h]
  exact if_pos h2
end
abbrev three : List Str := ["NoNet", "NoHeap", "Gone"]
abbrev ledY : Ys := Ys.dropC fx_led (Xa.cons (Xe.var 0) (Xa.cons (Xe.var 1) (Xa.cons (Xe.var 2) (Xa.cons Xe.dnil Xa.nil))))
theorem ledY_run {one two st : PyData} {o : RX} (h : fx_led [one, two, st, dctD []] = some o) : ledY.run [some (.dat one), some (.dat two), some (.dat st), some (.dat .none), none] = dropK [some (.dat one), some (.dat two), some (.dat st), some (.dat .none), none] o := by
  unfold ledY
  simp only [Px.gt_zero, Px.gt_succ, Px.st_zero, Px.st_succ, Px.wp_nil, Px.wp_cons, Px.fz_nil, Px.fz_lst, Px.fz_dat, Px.fz_dct, Px.fz_seq, Px.fz_none, Px.tl_nil, Px.tl_cons, Px.ent_no, Px.ent_own, Px.ent_seq, Px.argN_no, Px.argN_own, Px.argN_seq, Px.endO_rt, Px.endO_nx, Px.endO_rf, Px.endO_srt, Px.endO_srf, Px.endO_ort, Px.endO_onx, Px.int_ev, Px.str_ev, Px.bl_ev, Px.non_ev, Px.var_ev, Px.varE_zd, Px.varE_zl, Px.consV_some, Px.varE_s, Px.op_ev, Px.nil_ev, Px.cons_ev, Px.tup_ev, Px.lst_ev, Px.cb_ev, Px.asB_b, Px.andV_ev, Px.orV_ev, Px.notV_ev, Px.of_ev, Px.and_ev, Px.or_ev, Px.not_ev, Px.yes_ev, Px.ttmp_ev, Px.ifE_ev, Px.tmp_ev, Px.flat_int, Px.flat_str, Px.flat_bool, Px.flat_none, Px.asL_l, Px.asT_t, Px.asI_i, Px.asK_d, Px.ofF_ev, Px.flst_ev, Px.lc_ev, Px.asD_d, Px.asF_f, Px.call_ev, Px.fcall_ev, Px.isi_ev, Px.bits_ev, Px.dget_ev, Px.din_ev, Px.rev_ev, Px.orT_ev, Px.qnone_lo, Px.qsome_lo, Px.sl_ev, Px.slL_f, Px.slT_f, Px.lenSeq_ev, Px.neg_ev, Px.add_f, Px.sub_f, Px.and_f, Px.or_f, Px.lt_f, Px.le_f, Px.gt_f, Px.ge_f, Px.eq_f, Px.ne_f, Px.flatQ_i, Px.flatQ_s, Px.flatQ_b, Px.isN_f, Px.notN_f, Px.ix_list, Px.ix_tuple, Px.len_f, Px.lenT_f, Px.tup_f, Px.tupT_f, Px.lst_f, Px.lstT_f, Px.max_f, Px.min_f, Px.int_f, Px.itList_ev, Px.itTup_ev, Px.itEnumT_ev, Px.itRng1_ev, Px.itVals_ev, Px.name_ev, Px.gtup_ev, Px.glst_ev, Px.stN_nil, Px.stN_cons, Px.seqK_nx, Px.seqK_rt, Px.seqK_rf, Px.seqK_bk, Px.seqK_ct, Px.seq_run, Px.next_run, Px.set_run, Px.setF_run, Px.asg_run, Px.ret_run, Px.retF_run, Px.ifS_run, Px.drop_run, Px.newK_run, Px.par2F_run, Px.forS_run, Px.whileS_run, Px.turnK_nx, Px.turnK_ct, Px.turnK_bk, Px.turnK_rt, Px.turnK_rf, Px.for_nil, Px.lcA_nil, Option.bind_some, List.length_cons, List.length_nil, List.length_map, if_true, reduceCtorEq, List.replicate_succ, List.replicate_zero, Nat.reduceAdd, Nat.reduceSub, Nat.reduceLeDiff, ydrop_run, dnil_ev, h]
/-- an error with a field wrong -/
theorem refused_w {one two st w : PyData} {z : Str} (hz : z = "NoNet" ∨ z = "NoHeap") (h : fx_led [one, two, st, dctD []] = some (.ex (z, [("wrong", w)]))) : f_Lrefusal .no [one, two, st] = some (.dat (.list [.str z, w]), []) := by
  have e1 := ledY_run h
  rw [dropK_ex] at e1
  have hm : z ∈ three := by rcases hz with rfl | rfl <;> simp
  have e2 := try_ex (z := "NetError") (zs := three) (i := 4) (k := 3) e1 hm (by decide) (show 4 < 5 by decide)
  have e3 : (Xs.tryK "NetError" three 4 3 ledY).run [some (.dat one), some (.dat two), some (.dat st), some (.dat .none), none] = some (.nx [some (.dat one), some (.dat two), some (.dat st), some (.exc z [("wrong", w)]), none]) := e2
  have s1 : (Xe.isx 3 "NoNet" three).ev [some (.dat one), some (.dat two), some (.dat st), some (.exc z [("wrong", w)]), none] = some (.bool (decide (z = "NoNet")), [some (.dat one), some (.dat two), some (.dat st), some (.exc z [("wrong", w)]), none]) := isx_e rfl hm (by simp)
  have s2 : (Xe.isx 3 "NoHeap" three).ev [some (.dat one), some (.dat two), some (.dat st), some (.exc z [("wrong", w)]), none] = some (.bool (decide (z = "NoHeap")), [some (.dat one), some (.dat two), some (.dat st), some (.exc z [("wrong", w)]), none]) := isx_e rfl hm (by simp)
  have s3 : (Xe.xfld 3 z "wrong").ev [some (.dat one), some (.dat two), some (.dat st), some (.exc z [("wrong", w)]), none] = some (w, [some (.dat one), some (.dat two), some (.dat st), some (.exc z [("wrong", w)]), none]) := by
    show (if z = z then _ else _) = _
    rw [if_pos rfl]
    rfl
  unfold f_Lrefusal
  rw [fnOf_eq (by rfl)]
  unfold b_Lrefusal
  unfold three ledY at e3
  unfold three at s1 s2
  rcases hz with rfl | rfl
  · rw [show decide ((Str.ofString "NoNet") = Str.ofString "NoNet") = true from by decide] at s1
    simp only [Px.gt_zero, Px.gt_succ, Px.st_zero, Px.st_succ, Px.wp_nil, Px.wp_cons, Px.fz_nil, Px.fz_lst, Px.fz_dat, Px.fz_dct, Px.fz_seq, Px.fz_none, Px.tl_nil, Px.tl_cons, Px.ent_no, Px.ent_own, Px.ent_seq, Px.argN_no, Px.argN_own, Px.argN_seq, Px.endO_rt, Px.endO_nx, Px.endO_rf, Px.endO_srt, Px.endO_srf, Px.endO_ort, Px.endO_onx, Px.int_ev, Px.str_ev, Px.bl_ev, Px.non_ev, Px.var_ev, Px.varE_zd, Px.varE_zl, Px.consV_some, Px.varE_s, Px.op_ev, Px.nil_ev, Px.cons_ev, Px.tup_ev, Px.lst_ev, Px.cb_ev, Px.asB_b, Px.andV_ev, Px.orV_ev, Px.notV_ev, Px.of_ev, Px.and_ev, Px.or_ev, Px.not_ev, Px.yes_ev, Px.ttmp_ev, Px.ifE_ev, Px.tmp_ev, Px.flat_int, Px.flat_str, Px.flat_bool, Px.flat_none, Px.asL_l, Px.asT_t, Px.asI_i, Px.asK_d, Px.ofF_ev, Px.flst_ev, Px.lc_ev, Px.asD_d, Px.asF_f, Px.call_ev, Px.fcall_ev, Px.isi_ev, Px.bits_ev, Px.dget_ev, Px.din_ev, Px.rev_ev, Px.orT_ev, Px.qnone_lo, Px.qsome_lo, Px.sl_ev, Px.slL_f, Px.slT_f, Px.lenSeq_ev, Px.neg_ev, Px.add_f, Px.sub_f, Px.and_f, Px.or_f, Px.lt_f, Px.le_f, Px.gt_f, Px.ge_f, Px.eq_f, Px.ne_f, Px.flatQ_i, Px.flatQ_s, Px.flatQ_b, Px.isN_f, Px.notN_f, Px.ix_list, Px.ix_tuple, Px.len_f, Px.lenT_f, Px.tup_f, Px.tupT_f, Px.lst_f, Px.lstT_f, Px.max_f, Px.min_f, Px.int_f, Px.itList_ev, Px.itTup_ev, Px.itEnumT_ev, Px.itRng1_ev, Px.itVals_ev, Px.name_ev, Px.gtup_ev, Px.glst_ev, Px.stN_nil, Px.stN_cons, Px.seqK_nx, Px.seqK_rt, Px.seqK_rf, Px.seqK_bk, Px.seqK_ct, Px.seq_run, Px.next_run, Px.set_run, Px.setF_run, Px.asg_run, Px.ret_run, Px.retF_run, Px.ifS_run, Px.drop_run, Px.newK_run, Px.par2F_run, Px.forS_run, Px.whileS_run, Px.turnK_nx, Px.turnK_ct, Px.turnK_bk, Px.turnK_rt, Px.turnK_rf, Px.for_nil, Px.lcA_nil, Option.bind_some, List.length_cons, List.length_nil, List.length_map, if_true, reduceCtorEq, List.replicate_succ, List.replicate_zero, Nat.reduceAdd, Nat.reduceSub, Nat.reduceLeDiff, e3, s1, s3, if_true, List.length_cons, List.length_nil, Nat.reduceAdd, Nat.reduceLeDiff]
  · rw [show decide ((Str.ofString "NoHeap") = Str.ofString "NoNet") = false from by decide +kernel] at s1
    rw [show decide ((Str.ofString "NoHeap") = Str.ofString "NoHeap") = true from by decide] at s2
    simp only [Px.gt_zero, Px.gt_succ, Px.st_zero, Px.st_succ, Px.wp_nil, Px.wp_cons, Px.fz_nil, Px.fz_lst, Px.fz_dat, Px.fz_dct, Px.fz_seq, Px.fz_none, Px.tl_nil, Px.tl_cons, Px.ent_no, Px.ent_own, Px.ent_seq, Px.argN_no, Px.argN_own, Px.argN_seq, Px.endO_rt, Px.endO_nx, Px.endO_rf, Px.endO_srt, Px.endO_srf, Px.endO_ort, Px.endO_onx, Px.int_ev, Px.str_ev, Px.bl_ev, Px.non_ev, Px.var_ev, Px.varE_zd, Px.varE_zl, Px.consV_some, Px.varE_s, Px.op_ev, Px.nil_ev, Px.cons_ev, Px.tup_ev, Px.lst_ev, Px.cb_ev, Px.asB_b, Px.andV_ev, Px.orV_ev, Px.notV_ev, Px.of_ev, Px.and_ev, Px.or_ev, Px.not_ev, Px.yes_ev, Px.ttmp_ev, Px.ifE_ev, Px.tmp_ev, Px.flat_int, Px.flat_str, Px.flat_bool, Px.flat_none, Px.asL_l, Px.asT_t, Px.asI_i, Px.asK_d, Px.ofF_ev, Px.flst_ev, Px.lc_ev, Px.asD_d, Px.asF_f, Px.call_ev, Px.fcall_ev, Px.isi_ev, Px.bits_ev, Px.dget_ev, Px.din_ev, Px.rev_ev, Px.orT_ev, Px.qnone_lo, Px.qsome_lo, Px.sl_ev, Px.slL_f, Px.slT_f, Px.lenSeq_ev, Px.neg_ev, Px.add_f, Px.sub_f, Px.and_f, Px.or_f, Px.lt_f, Px.le_f, Px.gt_f, Px.ge_f, Px.eq_f, Px.ne_f, Px.flatQ_i, Px.flatQ_s, Px.flatQ_b, Px.isN_f, Px.notN_f, Px.ix_list, Px.ix_tuple, Px.len_f, Px.lenT_f, Px.tup_f, Px.tupT_f, Px.lst_f, Px.lstT_f, Px.max_f, Px.min_f, Px.int_f, Px.itList_ev, Px.itTup_ev, Px.itEnumT_ev, Px.itRng1_ev, Px.itVals_ev, Px.name_ev, Px.gtup_ev, Px.glst_ev, Px.stN_nil, Px.stN_cons, Px.seqK_nx, Px.seqK_rt, Px.seqK_rf, Px.seqK_bk, Px.seqK_ct, Px.seq_run, Px.next_run, Px.set_run, Px.setF_run, Px.asg_run, Px.ret_run, Px.retF_run, Px.ifS_run, Px.drop_run, Px.newK_run, Px.par2F_run, Px.forS_run, Px.whileS_run, Px.turnK_nx, Px.turnK_ct, Px.turnK_bk, Px.turnK_rt, Px.turnK_rf, Px.for_nil, Px.lcA_nil, Option.bind_some, List.length_cons, List.length_nil, List.length_map, if_true, reduceCtorEq, List.replicate_succ, List.replicate_zero, Nat.reduceAdd, Nat.reduceSub, Nat.reduceLeDiff, e3, s1, s2, s3, if_true, Bool.false_eq_true, if_false, List.length_cons, List.length_nil, Nat.reduceAdd, Nat.reduceLeDiff]
theorem refused_ok {one two st : PyData} (h : ledOk (fx_led [one, two, st, dctD []])) : f_Lrefusal .no [one, two, st] = some (.dat (.list []), []) := by
  have ix1 : oIx.f (.list [.list [.str "other"], .list []]) (.int 1) = some (.list []) := by
    rw [Px.ix_list]
    exact atI_nat (j := 1) rfl
  have b1 : bInt.f [.bool true] = some (.int 1) := rfl
  rcases h with ⟨d, h⟩ | ⟨z, h⟩
  · have e1 := ledY_run h
    rw [dropK_ok] at e1
    have e3 := try_o (z := "NetError") (zs := three) (i := 4) (k := 3) e1
    have s1 : (Xe.isx 3 "NoNet" three).ev [some (.dat one), some (.dat two), some (.dat st), some (.dat .none), none] = some (.bool false, [some (.dat one), some (.dat two), some (.dat st), some (.dat .none), none]) := isx_n rfl (by simp)
    have s2 : (Xe.isx 3 "NoHeap" three).ev [some (.dat one), some (.dat two), some (.dat st), some (.dat .none), none] = some (.bool false, [some (.dat one), some (.dat two), some (.dat st), some (.dat .none), none]) := isx_n rfl (by simp)
    have s4 : (Xe.isNx 3).ev [some (.dat one), some (.dat two), some (.dat st), some (.dat .none), none] = some (.bool true, [some (.dat one), some (.dat two), some (.dat st), some (.dat .none), none]) := rfl
    unfold f_Lrefusal
    rw [fnOf_eq (by rfl)]
    unfold b_Lrefusal
    unfold three ledY at e3
    unfold three at s1 s2
    simp only [Px.gt_zero, Px.gt_succ, Px.st_zero, Px.st_succ, Px.wp_nil, Px.wp_cons, Px.fz_nil, Px.fz_lst, Px.fz_dat, Px.fz_dct, Px.fz_seq, Px.fz_none, Px.tl_nil, Px.tl_cons, Px.ent_no, Px.ent_own, Px.ent_seq, Px.argN_no, Px.argN_own, Px.argN_seq, Px.endO_rt, Px.endO_nx, Px.endO_rf, Px.endO_srt, Px.endO_srf, Px.endO_ort, Px.endO_onx, Px.int_ev, Px.str_ev, Px.bl_ev, Px.non_ev, Px.var_ev, Px.varE_zd, Px.varE_zl, Px.consV_some, Px.varE_s, Px.op_ev, Px.nil_ev, Px.cons_ev, Px.tup_ev, Px.lst_ev, Px.cb_ev, Px.asB_b, Px.andV_ev, Px.orV_ev, Px.notV_ev, Px.of_ev, Px.and_ev, Px.or_ev, Px.not_ev, Px.yes_ev, Px.ttmp_ev, Px.ifE_ev, Px.tmp_ev, Px.flat_int, Px.flat_str, Px.flat_bool, Px.flat_none, Px.asL_l, Px.asT_t, Px.asI_i, Px.asK_d, Px.ofF_ev, Px.flst_ev, Px.lc_ev, Px.asD_d, Px.asF_f, Px.call_ev, Px.fcall_ev, Px.isi_ev, Px.bits_ev, Px.dget_ev, Px.din_ev, Px.rev_ev, Px.orT_ev, Px.qnone_lo, Px.qsome_lo, Px.sl_ev, Px.slL_f, Px.slT_f, Px.lenSeq_ev, Px.neg_ev, Px.add_f, Px.sub_f, Px.and_f, Px.or_f, Px.lt_f, Px.le_f, Px.gt_f, Px.ge_f, Px.eq_f, Px.ne_f, Px.flatQ_i, Px.flatQ_s, Px.flatQ_b, Px.isN_f, Px.notN_f, Px.ix_list, Px.ix_tuple, Px.len_f, Px.lenT_f, Px.tup_f, Px.tupT_f, Px.lst_f, Px.lstT_f, Px.max_f, Px.min_f, Px.int_f, Px.itList_ev, Px.itTup_ev, Px.itEnumT_ev, Px.itRng1_ev, Px.itVals_ev, Px.name_ev, Px.gtup_ev, Px.glst_ev, Px.stN_nil, Px.stN_cons, Px.seqK_nx, Px.seqK_rt, Px.seqK_rf, Px.seqK_bk, Px.seqK_ct, Px.seq_run, Px.next_run, Px.set_run, Px.setF_run, Px.asg_run, Px.ret_run, Px.retF_run, Px.ifS_run, Px.drop_run, Px.newK_run, Px.par2F_run, Px.forS_run, Px.whileS_run, Px.turnK_nx, Px.turnK_ct, Px.turnK_bk, Px.turnK_rt, Px.turnK_rf, Px.for_nil, Px.lcA_nil, Option.bind_some, List.length_cons, List.length_nil, List.length_map, if_true, reduceCtorEq, List.replicate_succ, List.replicate_zero, Nat.reduceAdd, Nat.reduceSub, Nat.reduceLeDiff, -Px.ix_list, e3, s1, s2, s4, b1, ix1, if_true, Bool.false_eq_true, if_false, List.length_cons, List.length_nil, Nat.reduceAdd, Nat.reduceLeDiff]
  · have e1 := ledY_run h
    rw [dropK_ex] at e1
    have hm : (Str.ofString "Gone") ∈ three := by simp
    have e2 := try_ex (z := "NetError") (zs := three) (i := 4) (k := 3) e1 hm (by decide) (show 4 < 5 by decide)
    have e3 : (Xs.tryK "NetError" three 4 3 ledY).run [some (.dat one), some (.dat two), some (.dat st), some (.dat .none), none] = some (.nx [some (.dat one), some (.dat two), some (.dat st), some (.exc "Gone" [("place", .str z)]), none]) := e2
    have s1 : (Xe.isx 3 "NoNet" three).ev [some (.dat one), some (.dat two), some (.dat st), some (.exc "Gone" [("place", .str z)]), none] = some (.bool (decide ((Str.ofString "Gone") = Str.ofString "NoNet")), [some (.dat one), some (.dat two), some (.dat st), some (.exc "Gone" [("place", .str z)]), none]) := isx_e rfl hm (by simp)
    have s2 : (Xe.isx 3 "NoHeap" three).ev [some (.dat one), some (.dat two), some (.dat st), some (.exc "Gone" [("place", .str z)]), none] = some (.bool (decide ((Str.ofString "Gone") = Str.ofString "NoHeap")), [some (.dat one), some (.dat two), some (.dat st), some (.exc "Gone" [("place", .str z)]), none]) := isx_e rfl hm (by simp)
    have s5 : (Xe.isx 3 "Gone" three).ev [some (.dat one), some (.dat two), some (.dat st), some (.exc "Gone" [("place", .str z)]), none] = some (.bool (decide ((Str.ofString "Gone") = Str.ofString "Gone")), [some (.dat one), some (.dat two), some (.dat st), some (.exc "Gone" [("place", .str z)]), none]) := isx_e rfl hm (by simp)
    rw [show decide ((Str.ofString "Gone") = Str.ofString "NoNet") = false from by decide +kernel] at s1
    rw [show decide ((Str.ofString "Gone") = Str.ofString "NoHeap") = false from by decide +kernel] at s2
    rw [show decide ((Str.ofString "Gone") = Str.ofString "Gone") = true from by decide] at s5
    have s4 : (Xe.isNx 3).ev [some (.dat one), some (.dat two), some (.dat st), some (.exc "Gone" [("place", .str z)]), none] = some (.bool false, [some (.dat one), some (.dat two), some (.dat st), some (.exc "Gone" [("place", .str z)]), none]) := rfl
    unfold f_Lrefusal
    rw [fnOf_eq (by rfl)]
    unfold b_Lrefusal
    unfold three ledY at e3
    unfold three at s1 s2 s5
    simp only [Px.gt_zero, Px.gt_succ, Px.st_zero, Px.st_succ, Px.wp_nil, Px.wp_cons, Px.fz_nil, Px.fz_lst, Px.fz_dat, Px.fz_dct, Px.fz_seq, Px.fz_none, Px.tl_nil, Px.tl_cons, Px.ent_no, Px.ent_own, Px.ent_seq, Px.argN_no, Px.argN_own, Px.argN_seq, Px.endO_rt, Px.endO_nx, Px.endO_rf, Px.endO_srt, Px.endO_srf, Px.endO_ort, Px.endO_onx, Px.int_ev, Px.str_ev, Px.bl_ev, Px.non_ev, Px.var_ev, Px.varE_zd, Px.varE_zl, Px.consV_some, Px.varE_s, Px.op_ev, Px.nil_ev, Px.cons_ev, Px.tup_ev, Px.lst_ev, Px.cb_ev, Px.asB_b, Px.andV_ev, Px.orV_ev, Px.notV_ev, Px.of_ev, Px.and_ev, Px.or_ev, Px.not_ev, Px.yes_ev, Px.ttmp_ev, Px.ifE_ev, Px.tmp_ev, Px.flat_int, Px.flat_str, Px.flat_bool, Px.flat_none, Px.asL_l, Px.asT_t, Px.asI_i, Px.asK_d, Px.ofF_ev, Px.flst_ev, Px.lc_ev, Px.asD_d, Px.asF_f, Px.call_ev, Px.fcall_ev, Px.isi_ev, Px.bits_ev, Px.dget_ev, Px.din_ev, Px.rev_ev, Px.orT_ev, Px.qnone_lo, Px.qsome_lo, Px.sl_ev, Px.slL_f, Px.slT_f, Px.lenSeq_ev, Px.neg_ev, Px.add_f, Px.sub_f, Px.and_f, Px.or_f, Px.lt_f, Px.le_f, Px.gt_f, Px.ge_f, Px.eq_f, Px.ne_f, Px.flatQ_i, Px.flatQ_s, Px.flatQ_b, Px.isN_f, Px.notN_f, Px.ix_list, Px.ix_tuple, Px.len_f, Px.lenT_f, Px.tup_f, Px.tupT_f, Px.lst_f, Px.lstT_f, Px.max_f, Px.min_f, Px.int_f, Px.itList_ev, Px.itTup_ev, Px.itEnumT_ev, Px.itRng1_ev, Px.itVals_ev, Px.name_ev, Px.gtup_ev, Px.glst_ev, Px.stN_nil, Px.stN_cons, Px.seqK_nx, Px.seqK_rt, Px.seqK_rf, Px.seqK_bk, Px.seqK_ct, Px.seq_run, Px.next_run, Px.set_run, Px.setF_run, Px.asg_run, Px.ret_run, Px.retF_run, Px.ifS_run, Px.drop_run, Px.newK_run, Px.par2F_run, Px.forS_run, Px.whileS_run, Px.turnK_nx, Px.turnK_ct, Px.turnK_bk, Px.turnK_rt, Px.turnK_rf, Px.for_nil, Px.lcA_nil, Option.bind_some, List.length_cons, List.length_nil, List.length_map, if_true, reduceCtorEq, List.replicate_succ, List.replicate_zero, Nat.reduceAdd, Nat.reduceSub, Nat.reduceLeDiff, -Px.ix_list, e3, s1, s2, s4, s5, b1, ix1, if_true, Bool.false_eq_true, if_false, List.length_cons, List.length_nil, Nat.reduceAdd, Nat.reduceLeDiff]
end Nt

set_option Elab.async false
set_option linter.all false
set_option autoImplicit false
set_option maxRecDepth 100000
set_option maxHeartbeats 4000000
/-! What is refused is what is due. -/
namespace Nt
open PySem PySem.Spec PyProof.Rows L2 Lw Px
theorem badAll_form (num : Str → Option Int) : ∀ (pss : List (List PyData)) (j : Int), badAll num j pss = .none ∨ ∃ i, badAll num j pss = .int i
  | [], _ => .inl rfl
  | ps :: r, j => by
    rw [badAll]
    cases badIn num j (-1) ps with
    | inl i => exact .inr ⟨i, rfl⟩
    | inr i => exact badAll_form num r i
theorem gd_one (z : Str) (h : okS z = true) : gd 1 (oneD z) = true := by
  unfold oneD gd
  simp only [List.all_cons, List.all_nil, Bool.and_true, Bool.and_eq_true, decide_eq_true_eq]
  exact ⟨by simp, by simpa [gd] using h⟩
theorem gd_two (z : Str) (h : okS z = true) (i : Int) : gd 1 (.tuple [.str z, .int i]) = true := by
  unfold gd
  simp only [List.all_cons, List.all_nil, Bool.and_true, Bool.and_eq_true, decide_eq_true_eq]
  exact ⟨by simp, by simpa [gd] using h, by simp [gd]⟩
theorem places_gd : ∀ (ps : List PyData) (k : Nat) (ah : List Str), gd 1 (placesWrong k ah ps) = true
  | [], _, _ => rfl
  | p :: ps, k, ah => by
    rw [placesWrong]
    split
    · exact gd_two "place" (by decide +kernel) _
    · exact places_gd ps _ _
theorem firings_gd (num : Str → Option Int) : ∀ (fs : List PyData) (k : Nat) (ah : List Str), gd 1 (firingsWrong num k ah fs) = true
  | [], _, _ => rfl
  | f :: fs, k, ah => by
    rw [firingsWrong]
    split
    · exact gd_two "firing" (by decide +kernel) _
    · split
      · exact firings_gd num fs _ _
      · have hs : okS "part" = true := by decide +kernel
        rcases badAll_form num [seqD (itemD f 2), seqD (itemD f 3)] 0 with h | ⟨i, h⟩
        · rw [badPart, h]
          unfold gd
          simp only [List.all_cons, List.all_nil, Bool.and_true, Bool.and_eq_true, decide_eq_true_eq]
          exact ⟨by simp, by simpa [gd] using hs, by simp [gd], by simp [gd]⟩
        · rw [badPart, h]
          unfold gd
          simp only [List.all_cons, List.all_nil, Bool.and_true, Bool.and_eq_true, decide_eq_true_eq]
          exact ⟨by simp, by simpa [gd] using hs, by simp [gd], by simp [gd]⟩
theorem wrong2_gd (ps fs : List PyData) : gd 1 (netWrong2 ps fs) = true := by
  obtain ⟨u, hu⟩ : ∃ u, (if isNoneD (placesWrong 0 [] ps) = true then firingsWrong (numOf (numKv ps)) 0 [] fs else placesWrong 0 [] ps) = u := ⟨_, rfl⟩
  have h : gd 1 u = true := by
    rw [← hu]
    split
    · exact firings_gd _ _ _ _
    · exact places_gd _ _ _
  have e : netWrong2 ps fs = if (isNoneD u && (decide (40 < (ps.length : Int)) || decide (60 < (fs.length : Int)))) = true then oneD "great" else u := by rw [← hu]; rfl
  rw [e]
  split
  · exact gd_one "great" (by decide +kernel)
  · exact h
theorem wrong_gd (a : PyData) : gd 1 (netWrong a) = true := by
  unfold netWrong
  split
  · split
    · exact gd_one "net" (by decide +kernel)
    · exact wrong2_gd _ _
  · exact gd_one "net" (by decide +kernel)
theorem gd_lst2 {a b : PyData} (ha : gd 1 a = true) (hb : gd 1 b = true) : gd 2 (.list [a, b]) = true := by
  unfold gd
  simp only [List.all_cons, List.all_nil, Bool.and_true, Bool.and_eq_true, decide_eq_true_eq]
  exact ⟨by simp, ha, hb⟩
theorem none_is {d : PyData} (h : isNoneD d = true) : d = .none := by cases d <;> first | rfl | cases h
theorem led_a {one two st : PyData} (g : gd 20 one = true) (w : isNoneD (netWrong one) = false) : fx_led [one, two, st, dctD []] = some (.ex ("NoNet", [("wrong", netWrong one)])) := by
  have c1 := check_is g
  rw [w, if_neg Bool.false_ne_true] at c1
  unfold fx_led
  rw [fnX_eq (by rfl)]
  unfold bx_led
  simp only [Px.gt_zero, Px.gt_succ, Px.st_zero, Px.st_succ, Px.wp_nil, Px.wp_cons, Px.fz_nil, Px.fz_lst, Px.fz_dat, Px.fz_dct, Px.fz_seq, Px.fz_none, Px.tl_nil, Px.tl_cons, Px.ent_no, Px.ent_own, Px.ent_seq, Px.argN_no, Px.argN_own, Px.argN_seq, Px.endO_rt, Px.endO_nx, Px.endO_rf, Px.endO_srt, Px.endO_srf, Px.endO_ort, Px.endO_onx, Px.int_ev, Px.str_ev, Px.bl_ev, Px.non_ev, Px.var_ev, Px.varE_zd, Px.varE_zl, Px.consV_some, Px.varE_s, Px.op_ev, Px.nil_ev, Px.cons_ev, Px.tup_ev, Px.lst_ev, Px.cb_ev, Px.asB_b, Px.andV_ev, Px.orV_ev, Px.notV_ev, Px.of_ev, Px.and_ev, Px.or_ev, Px.not_ev, Px.yes_ev, Px.ttmp_ev, Px.ifE_ev, Px.tmp_ev, Px.flat_int, Px.flat_str, Px.flat_bool, Px.flat_none, Px.asL_l, Px.asT_t, Px.asI_i, Px.asK_d, Px.ofF_ev, Px.flst_ev, Px.lc_ev, Px.asD_d, Px.asF_f, Px.call_ev, Px.fcall_ev, Px.isi_ev, Px.bits_ev, Px.dget_ev, Px.din_ev, Px.rev_ev, Px.orT_ev, Px.qnone_lo, Px.qsome_lo, Px.sl_ev, Px.slL_f, Px.slT_f, Px.lenSeq_ev, Px.neg_ev, Px.add_f, Px.sub_f, Px.and_f, Px.or_f, Px.lt_f, Px.le_f, Px.gt_f, Px.ge_f, Px.eq_f, Px.ne_f, Px.flatQ_i, Px.flatQ_s, Px.flatQ_b, Px.isN_f, Px.notN_f, Px.ix_list, Px.ix_tuple, Px.len_f, Px.lenT_f, Px.tup_f, Px.tupT_f, Px.lst_f, Px.lstT_f, Px.max_f, Px.min_f, Px.int_f, Px.itList_ev, Px.itTup_ev, Px.itEnumT_ev, Px.itRng1_ev, Px.itVals_ev, Px.name_ev, Px.gtup_ev, Px.glst_ev, Px.stN_nil, Px.stN_cons, Px.seqK_nx, Px.seqK_rt, Px.seqK_rf, Px.seqK_bk, Px.seqK_ct, Px.seq_run, Px.next_run, Px.set_run, Px.setF_run, Px.asg_run, Px.ret_run, Px.retF_run, Px.ifS_run, Px.drop_run, Px.newK_run, Px.par2F_run, Px.forS_run, Px.whileS_run, Px.turnK_nx, Px.turnK_ct, Px.turnK_bk, Px.turnK_rt, Px.turnK_rf, Px.for_nil, Px.lcA_nil, Option.bind_some, List.length_cons, List.length_nil, List.length_map, if_true, reduceCtorEq, List.replicate_succ, List.replicate_zero, Nat.reduceAdd, Nat.reduceSub, Nat.reduceLeDiff, yseq_run, ydrop_run, c1, dropK_ex, seqX_ex, outX_ex]
theorem led_b {one two st : PyData} (g : gd 20 one = true) (w : isNoneD (netWrong one) = true) (g2 : gd 20 two = true) (w2 : isNoneD (netWrong two) = false) : fx_led [one, two, st, dctD []] = some (.ex ("NoNet", [("wrong", netWrong two)])) := by
  have c1 := check_is g
  have c2 := check_is g2
  rw [w, if_pos rfl] at c1
  rw [w2, if_neg Bool.false_ne_true] at c2
  unfold fx_led
  rw [fnX_eq (by rfl)]
  unfold bx_led
  simp only [Px.gt_zero, Px.gt_succ, Px.st_zero, Px.st_succ, Px.wp_nil, Px.wp_cons, Px.fz_nil, Px.fz_lst, Px.fz_dat, Px.fz_dct, Px.fz_seq, Px.fz_none, Px.tl_nil, Px.tl_cons, Px.ent_no, Px.ent_own, Px.ent_seq, Px.argN_no, Px.argN_own, Px.argN_seq, Px.endO_rt, Px.endO_nx, Px.endO_rf, Px.endO_srt, Px.endO_srf, Px.endO_ort, Px.endO_onx, Px.int_ev, Px.str_ev, Px.bl_ev, Px.non_ev, Px.var_ev, Px.varE_zd, Px.varE_zl, Px.consV_some, Px.varE_s, Px.op_ev, Px.nil_ev, Px.cons_ev, Px.tup_ev, Px.lst_ev, Px.cb_ev, Px.asB_b, Px.andV_ev, Px.orV_ev, Px.notV_ev, Px.of_ev, Px.and_ev, Px.or_ev, Px.not_ev, Px.yes_ev, Px.ttmp_ev, Px.ifE_ev, Px.tmp_ev, Px.flat_int, Px.flat_str, Px.flat_bool, Px.flat_none, Px.asL_l, Px.asT_t, Px.asI_i, Px.asK_d, Px.ofF_ev, Px.flst_ev, Px.lc_ev, Px.asD_d, Px.asF_f, Px.call_ev, Px.fcall_ev, Px.isi_ev, Px.bits_ev, Px.dget_ev, Px.din_ev, Px.rev_ev, Px.orT_ev, Px.qnone_lo, Px.qsome_lo, Px.sl_ev, Px.slL_f, Px.slT_f, Px.lenSeq_ev, Px.neg_ev, Px.add_f, Px.sub_f, Px.and_f, Px.or_f, Px.lt_f, Px.le_f, Px.gt_f, Px.ge_f, Px.eq_f, Px.ne_f, Px.flatQ_i, Px.flatQ_s, Px.flatQ_b, Px.isN_f, Px.notN_f, Px.ix_list, Px.ix_tuple, Px.len_f, Px.lenT_f, Px.tup_f, Px.tupT_f, Px.lst_f, Px.lstT_f, Px.max_f, Px.min_f, Px.int_f, Px.itList_ev, Px.itTup_ev, Px.itEnumT_ev, Px.itRng1_ev, Px.itVals_ev, Px.name_ev, Px.gtup_ev, Px.glst_ev, Px.stN_nil, Px.stN_cons, Px.seqK_nx, Px.seqK_rt, Px.seqK_rf, Px.seqK_bk, Px.seqK_ct, Px.seq_run, Px.next_run, Px.set_run, Px.setF_run, Px.asg_run, Px.ret_run, Px.retF_run, Px.ifS_run, Px.drop_run, Px.newK_run, Px.par2F_run, Px.forS_run, Px.whileS_run, Px.turnK_nx, Px.turnK_ct, Px.turnK_bk, Px.turnK_rt, Px.turnK_rf, Px.for_nil, Px.lcA_nil, Option.bind_some, List.length_cons, List.length_nil, List.length_map, if_true, reduceCtorEq, List.replicate_succ, List.replicate_zero, Nat.reduceAdd, Nat.reduceSub, Nat.reduceLeDiff, yseq_run, ydrop_run, c1, c2, dropK_ok, dropK_ex, seqX_nx, seqX_ex, outX_ex]
theorem led_c {one two st hf : PyData} (g : gd 20 one = true) (w : isNoneD (netWrong one) = true) (g2 : gd 20 two = true) (w2 : isNoneD (netWrong two) = true) (h : f_heap_wrong .no [one, st] = some (.dat hf, [])) (w3 : isNoneD hf = false) :
    fx_led [one, two, st, dctD []] = some (.ex ("NoHeap", [("wrong", hf)])) := by
  have c1 := check_is g
  have c2 := check_is g2
  have c3 := check_heap_is h
  rw [w, if_pos rfl] at c1
  rw [w2, if_pos rfl] at c2
  rw [w3, if_neg Bool.false_ne_true] at c3
  unfold fx_led
  rw [fnX_eq (by rfl)]
  unfold bx_led
  simp only [Px.gt_zero, Px.gt_succ, Px.st_zero, Px.st_succ, Px.wp_nil, Px.wp_cons, Px.fz_nil, Px.fz_lst, Px.fz_dat, Px.fz_dct, Px.fz_seq, Px.fz_none, Px.tl_nil, Px.tl_cons, Px.ent_no, Px.ent_own, Px.ent_seq, Px.argN_no, Px.argN_own, Px.argN_seq, Px.endO_rt, Px.endO_nx, Px.endO_rf, Px.endO_srt, Px.endO_srf, Px.endO_ort, Px.endO_onx, Px.int_ev, Px.str_ev, Px.bl_ev, Px.non_ev, Px.var_ev, Px.varE_zd, Px.varE_zl, Px.consV_some, Px.varE_s, Px.op_ev, Px.nil_ev, Px.cons_ev, Px.tup_ev, Px.lst_ev, Px.cb_ev, Px.asB_b, Px.andV_ev, Px.orV_ev, Px.notV_ev, Px.of_ev, Px.and_ev, Px.or_ev, Px.not_ev, Px.yes_ev, Px.ttmp_ev, Px.ifE_ev, Px.tmp_ev, Px.flat_int, Px.flat_str, Px.flat_bool, Px.flat_none, Px.asL_l, Px.asT_t, Px.asI_i, Px.asK_d, Px.ofF_ev, Px.flst_ev, Px.lc_ev, Px.asD_d, Px.asF_f, Px.call_ev, Px.fcall_ev, Px.isi_ev, Px.bits_ev, Px.dget_ev, Px.din_ev, Px.rev_ev, Px.orT_ev, Px.qnone_lo, Px.qsome_lo, Px.sl_ev, Px.slL_f, Px.slT_f, Px.lenSeq_ev, Px.neg_ev, Px.add_f, Px.sub_f, Px.and_f, Px.or_f, Px.lt_f, Px.le_f, Px.gt_f, Px.ge_f, Px.eq_f, Px.ne_f, Px.flatQ_i, Px.flatQ_s, Px.flatQ_b, Px.isN_f, Px.notN_f, Px.ix_list, Px.ix_tuple, Px.len_f, Px.lenT_f, Px.tup_f, Px.tupT_f, Px.lst_f, Px.lstT_f, Px.max_f, Px.min_f, Px.int_f, Px.itList_ev, Px.itTup_ev, Px.itEnumT_ev, Px.itRng1_ev, Px.itVals_ev, Px.name_ev, Px.gtup_ev, Px.glst_ev, Px.stN_nil, Px.stN_cons, Px.seqK_nx, Px.seqK_rt, Px.seqK_rf, Px.seqK_bk, Px.seqK_ct, Px.seq_run, Px.next_run, Px.set_run, Px.setF_run, Px.asg_run, Px.ret_run, Px.retF_run, Px.ifS_run, Px.drop_run, Px.newK_run, Px.par2F_run, Px.forS_run, Px.whileS_run, Px.turnK_nx, Px.turnK_ct, Px.turnK_bk, Px.turnK_rt, Px.turnK_rf, Px.for_nil, Px.lcA_nil, Option.bind_some, List.length_cons, List.length_nil, List.length_map, if_true, reduceCtorEq, List.replicate_succ, List.replicate_zero, Nat.reduceAdd, Nat.reduceSub, Nat.reduceLeDiff, yseq_run, ydrop_run, c1, c2, c3, dropK_ok, dropK_ex, seqX_nx, seqX_ex, outX_ex]
abbrev dueBody : Xs := Xs.ifS (Xt.of (Xe.op oNotN (Xe.call f_net_wrong (Xa.cons (Xe.var 3) Xa.nil)) Xe.non)) (Xs.ret (Xe.lst (Xa.cons (Xe.str "NoNet") (Xa.cons (Xe.call f_net_wrong (Xa.cons (Xe.var 3) Xa.nil)) Xa.nil)))) Xs.next
theorem due_a {one two st : PyData} (g : gd 20 one = true) (w : isNoneD (netWrong one) = false) : f_Ldue .no [one, two, st] = some (.dat (.list [.str "NoNet", netWrong one]), []) := by
  unfold f_Ldue
  rw [fnOf_eq (by rfl)]
  unfold b_Ldue
  simp only [Px.gt_zero, Px.gt_succ, Px.st_zero, Px.st_succ, Px.wp_nil, Px.wp_cons, Px.fz_nil, Px.fz_lst, Px.fz_dat, Px.fz_dct, Px.fz_seq, Px.fz_none, Px.tl_nil, Px.tl_cons, Px.ent_no, Px.ent_own, Px.ent_seq, Px.argN_no, Px.argN_own, Px.argN_seq, Px.endO_rt, Px.endO_nx, Px.endO_rf, Px.endO_srt, Px.endO_srf, Px.endO_ort, Px.endO_onx, Px.int_ev, Px.str_ev, Px.bl_ev, Px.non_ev, Px.var_ev, Px.varE_zd, Px.varE_zl, Px.consV_some, Px.varE_s, Px.op_ev, Px.nil_ev, Px.cons_ev, Px.tup_ev, Px.lst_ev, Px.cb_ev, Px.asB_b, Px.andV_ev, Px.orV_ev, Px.notV_ev, Px.of_ev, Px.and_ev, Px.or_ev, Px.not_ev, Px.yes_ev, Px.ttmp_ev, Px.ifE_ev, Px.tmp_ev, Px.flat_int, Px.flat_str, Px.flat_bool, Px.flat_none, Px.asL_l, Px.asT_t, Px.asI_i, Px.asK_d, Px.ofF_ev, Px.flst_ev, Px.lc_ev, Px.asD_d, Px.asF_f, Px.call_ev, Px.fcall_ev, Px.isi_ev, Px.bits_ev, Px.dget_ev, Px.din_ev, Px.rev_ev, Px.orT_ev, Px.qnone_lo, Px.qsome_lo, Px.sl_ev, Px.slL_f, Px.slT_f, Px.lenSeq_ev, Px.neg_ev, Px.add_f, Px.sub_f, Px.and_f, Px.or_f, Px.lt_f, Px.le_f, Px.gt_f, Px.ge_f, Px.eq_f, Px.ne_f, Px.flatQ_i, Px.flatQ_s, Px.flatQ_b, Px.isN_f, Px.notN_f, Px.ix_list, Px.ix_tuple, Px.len_f, Px.lenT_f, Px.tup_f, Px.tupT_f, Px.lst_f, Px.lstT_f, Px.max_f, Px.min_f, Px.int_f, Px.itList_ev, Px.itTup_ev, Px.itEnumT_ev, Px.itRng1_ev, Px.itVals_ev, Px.name_ev, Px.gtup_ev, Px.glst_ev, Px.stN_nil, Px.stN_cons, Px.seqK_nx, Px.seqK_rt, Px.seqK_rf, Px.seqK_bk, Px.seqK_ct, Px.seq_run, Px.next_run, Px.set_run, Px.setF_run, Px.asg_run, Px.ret_run, Px.retF_run, Px.ifS_run, Px.drop_run, Px.newK_run, Px.par2F_run, Px.forS_run, Px.whileS_run, Px.turnK_nx, Px.turnK_ct, Px.turnK_bk, Px.turnK_rt, Px.turnK_rf, Px.for_nil, Px.lcA_nil, Option.bind_some, List.length_cons, List.length_nil, List.length_map, if_true, reduceCtorEq, List.replicate_succ, List.replicate_zero, Nat.reduceAdd, Nat.reduceSub, Nat.reduceLeDiff, for_cons, wrong_net g, w, Bool.not_false, if_true, List.length_cons, List.length_nil, Nat.reduceAdd, Nat.reduceLeDiff]
theorem due_b {one two st : PyData} (g : gd 20 one = true) (w : isNoneD (netWrong one) = true) (g2 : gd 20 two = true) (w2 : isNoneD (netWrong two) = false) : f_Ldue .no [one, two, st] = some (.dat (.list [.str "NoNet", netWrong two]), []) := by
  unfold f_Ldue
  rw [fnOf_eq (by rfl)]
  unfold b_Ldue
  simp only [Px.gt_zero, Px.gt_succ, Px.st_zero, Px.st_succ, Px.wp_nil, Px.wp_cons, Px.fz_nil, Px.fz_lst, Px.fz_dat, Px.fz_dct, Px.fz_seq, Px.fz_none, Px.tl_nil, Px.tl_cons, Px.ent_no, Px.ent_own, Px.ent_seq, Px.argN_no, Px.argN_own, Px.argN_seq, Px.endO_rt, Px.endO_nx, Px.endO_rf, Px.endO_srt, Px.endO_srf, Px.endO_ort, Px.endO_onx, Px.int_ev, Px.str_ev, Px.bl_ev, Px.non_ev, Px.var_ev, Px.varE_zd, Px.varE_zl, Px.consV_some, Px.varE_s, Px.op_ev, Px.nil_ev, Px.cons_ev, Px.tup_ev, Px.lst_ev, Px.cb_ev, Px.asB_b, Px.andV_ev, Px.orV_ev, Px.notV_ev, Px.of_ev, Px.and_ev, Px.or_ev, Px.not_ev, Px.yes_ev, Px.ttmp_ev, Px.ifE_ev, Px.tmp_ev, Px.flat_int, Px.flat_str, Px.flat_bool, Px.flat_none, Px.asL_l, Px.asT_t, Px.asI_i, Px.asK_d, Px.ofF_ev, Px.flst_ev, Px.lc_ev, Px.asD_d, Px.asF_f, Px.call_ev, Px.fcall_ev, Px.isi_ev, Px.bits_ev, Px.dget_ev, Px.din_ev, Px.rev_ev, Px.orT_ev, Px.qnone_lo, Px.qsome_lo, Px.sl_ev, Px.slL_f, Px.slT_f, Px.lenSeq_ev, Px.neg_ev, Px.add_f, Px.sub_f, Px.and_f, Px.or_f, Px.lt_f, Px.le_f, Px.gt_f, Px.ge_f, Px.eq_f, Px.ne_f, Px.flatQ_i, Px.flatQ_s, Px.flatQ_b, Px.isN_f, Px.notN_f, Px.ix_list, Px.ix_tuple, Px.len_f, Px.lenT_f, Px.tup_f, Px.tupT_f, Px.lst_f, Px.lstT_f, Px.max_f, Px.min_f, Px.int_f, Px.itList_ev, Px.itTup_ev, Px.itEnumT_ev, Px.itRng1_ev, Px.itVals_ev, Px.name_ev, Px.gtup_ev, Px.glst_ev, Px.stN_nil, Px.stN_cons, Px.seqK_nx, Px.seqK_rt, Px.seqK_rf, Px.seqK_bk, Px.seqK_ct, Px.seq_run, Px.next_run, Px.set_run, Px.setF_run, Px.asg_run, Px.ret_run, Px.retF_run, Px.ifS_run, Px.drop_run, Px.newK_run, Px.par2F_run, Px.forS_run, Px.whileS_run, Px.turnK_nx, Px.turnK_ct, Px.turnK_bk, Px.turnK_rt, Px.turnK_rf, Px.for_nil, Px.lcA_nil, Option.bind_some, List.length_cons, List.length_nil, List.length_map, if_true, reduceCtorEq, List.replicate_succ, List.replicate_zero, Nat.reduceAdd, Nat.reduceSub, Nat.reduceLeDiff, for_cons, wrong_net g, wrong_net g2, w, w2, Bool.not_false, Bool.not_true, Bool.false_eq_true, if_false, if_true, List.length_cons, List.length_nil, Nat.reduceAdd, Nat.reduceLeDiff]
theorem due_c {one two st hf : PyData} (g : gd 20 one = true) (w : isNoneD (netWrong one) = true) (g2 : gd 20 two = true) (w2 : isNoneD (netWrong two) = true) (h : f_heap_wrong .no [one, st] = some (.dat hf, [])) :
    f_Ldue .no [one, two, st] = some (.dat (if isNoneD hf = true then .list [] else .list [.str "NoHeap", hf]), []) := by
  unfold f_Ldue
  rw [fnOf_eq (by rfl)]
  unfold b_Ldue
  cases w3 : isNoneD hf <;> simp only [Px.gt_zero, Px.gt_succ, Px.st_zero, Px.st_succ, Px.wp_nil, Px.wp_cons, Px.fz_nil, Px.fz_lst, Px.fz_dat, Px.fz_dct, Px.fz_seq, Px.fz_none, Px.tl_nil, Px.tl_cons, Px.ent_no, Px.ent_own, Px.ent_seq, Px.argN_no, Px.argN_own, Px.argN_seq, Px.endO_rt, Px.endO_nx, Px.endO_rf, Px.endO_srt, Px.endO_srf, Px.endO_ort, Px.endO_onx, Px.int_ev, Px.str_ev, Px.bl_ev, Px.non_ev, Px.var_ev, Px.varE_zd, Px.varE_zl, Px.consV_some, Px.varE_s, Px.op_ev, Px.nil_ev, Px.cons_ev, Px.tup_ev, Px.lst_ev, Px.cb_ev, Px.asB_b, Px.andV_ev, Px.orV_ev, Px.notV_ev, Px.of_ev, Px.and_ev, Px.or_ev, Px.not_ev, Px.yes_ev, Px.ttmp_ev, Px.ifE_ev, Px.tmp_ev, Px.flat_int, Px.flat_str, Px.flat_bool, Px.flat_none, Px.asL_l, Px.asT_t, Px.asI_i, Px.asK_d, Px.ofF_ev, Px.flst_ev, Px.lc_ev, Px.asD_d, Px.asF_f, Px.call_ev, Px.fcall_ev, Px.isi_ev, Px.bits_ev, Px.dget_ev, Px.din_ev, Px.rev_ev, Px.orT_ev, Px.qnone_lo, Px.qsome_lo, Px.sl_ev, Px.slL_f, Px.slT_f, Px.lenSeq_ev, Px.neg_ev, Px.add_f, Px.sub_f, Px.and_f, Px.or_f, Px.lt_f, Px.le_f, Px.gt_f, Px.ge_f, Px.eq_f, Px.ne_f, Px.flatQ_i, Px.flatQ_s, Px.flatQ_b, Px.isN_f, Px.notN_f, Px.ix_list, Px.ix_tuple, Px.len_f, Px.lenT_f, Px.tup_f, Px.tupT_f, Px.lst_f, Px.lstT_f, Px.max_f, Px.min_f, Px.int_f, Px.itList_ev, Px.itTup_ev, Px.itEnumT_ev, Px.itRng1_ev, Px.itVals_ev, Px.name_ev, Px.gtup_ev, Px.glst_ev, Px.stN_nil, Px.stN_cons, Px.seqK_nx, Px.seqK_rt, Px.seqK_rf, Px.seqK_bk, Px.seqK_ct, Px.seq_run, Px.next_run, Px.set_run, Px.setF_run, Px.asg_run, Px.ret_run, Px.retF_run, Px.ifS_run, Px.drop_run, Px.newK_run, Px.par2F_run, Px.forS_run, Px.whileS_run, Px.turnK_nx, Px.turnK_ct, Px.turnK_bk, Px.turnK_rt, Px.turnK_rf, Px.for_nil, Px.lcA_nil, Option.bind_some, List.length_cons, List.length_nil, List.length_map, if_true, reduceCtorEq, List.replicate_succ, List.replicate_zero, Nat.reduceAdd, Nat.reduceSub, Nat.reduceLeDiff, for_cons, wrong_net g, wrong_net g2, w, w2, h, w3, Bool.not_false, Bool.not_true, Bool.false_eq_true, if_false, if_true, List.length_cons, List.length_nil, Nat.reduceAdd, Nat.reduceLeDiff]
/-- both tell the same -/
theorem right_is {one two st : PyData} (g : gd 20 one = true) (g2 : gd 20 two = true) (t1 : Two one) (t2 : Two two) (hs : Stk st) :
    ∃ r : PyData, f_Lrefusal .no [one, two, st] = some (.dat r, []) ∧ f_Ldue .no [one, two, st] = some (.dat r, []) ∧ gd 2 r = true := by
  have ok1 : ∀ z : Str, okS z = true → gd 1 (.str z) = true := fun z hz => gd_s.trans hz
  cases w : isNoneD (netWrong one) with
  | false => exact ⟨_, refused_w (.inl rfl) (led_a g w), due_a g w, gd_lst2 (ok1 _ (by decide +kernel)) (wrong_gd one)⟩
  | true =>
    cases w2 : isNoneD (netWrong two) with
    | false => exact ⟨_, refused_w (.inl rfl) (led_b g w g2 w2), due_b g w g2 w2, gd_lst2 (ok1 _ (by decide +kernel)) (wrong_gd two)⟩
    | true =>
      have hb : netB one = true := by
        unfold netB
        rw [g, w]
        rfl
      rcases t1 with ⟨qs, x1, rfl, hq⟩ | t1
      · rcases t2 with ⟨rs, x2, rfl, hr⟩ | t2
        · obtain ⟨hf, f1, f2, f3⟩ := flaw_is (qs.map partD) x1 hs
          have h := flaw_wrong hb f1
          have hd := due_c g w g2 w2 h
          cases w3 : isNoneD hf with
          | false =>
            rw [w3, if_neg Bool.false_ne_true] at hd
            exact ⟨_, refused_w (.inr rfl) (led_c g w g2 w2 h w3), hd, gd_lst2 (ok1 _ (by decide +kernel)) f2⟩
          | true =>
            rw [w3, if_pos rfl] at hd
            have hn := none_is w3
            subst hn
            obtain ⟨is, rfl, hl⟩ := f3 rfl
            rw [List.length_map] at hl
            exact ⟨_, refused_ok (led_is (hf := .none) hq hr hl g g2 (none_is w) (none_is w2) h), hd, by decide +kernel⟩
        · rw [t2] at w2
          cases w2
      · rw [t1] at w
        cases w
theorem same_is {r : PyData} (h : gd 2 r = true) : oNeD.f r r = some (.bool false) := by
  have hl := gd_lay 2 r h
  have sh : SeqAt.shaped r = true := by
    unfold SeqAt.shaped
    rw [Bool.and_eq_true]
    exact ⟨hl.1, decide_eq_true (Nat.le_trans hl.2 (by decide))⟩
  rw [neD_f sh sh, SeqAt.eqv_refl _ hl.1]
  rfl
end Nt

set_option Elab.async false
set_option linter.all false
set_option autoImplicit false
set_option maxRecDepth 100000
set_option maxHeartbeats 4000000
namespace Nt
open PySem PySem.Spec PyProof.Rows L2 Lw Px Zn
section
variable {P : Program} {w : World} {G : Gx} {mg : Str → Option Value} {base : Heap}
/-! ### law -/
abbrev s_law : Stmt := topS 43
abbrev n_law : List Str := ["_law_script", "_law_at_here", "_law_purse_here", "_law_turn", "_law_one", "_law_two", "_law_stock_here", "_law_held_as"]
theorem sc_law : FnScope n_law ["_law_script"] (defScope s_law) := ⟨rfl, rfl, rfl, by decide +kernel, rfl, by decide +kernel, by decide +kernel⟩
def b_law : Xs := (Xs.seq (Xs.forS (itRng1 (Xe.op oAdd (Xe.int 1) (Xe.cb bMin (Xa.cons (Xe.int 4) (Xa.cons (Xe.lenSeq 0) Xa.nil))))) (Xg.name 1) (Xs.seq (Xs.setF 2 (Xf.callS f_Lpurse 0 (Xa.cons (Xe.var 1) Xa.nil)))
    (Xs.forS (itRng1 (Xe.int 4)) (Xg.name 3) (Xs.seq (Xs.set 4 (Xe.callM f_Lnet 2 (Xa.cons (Xe.callM f_Ldraw 2 (Xa.cons (Xe.int 3) Xa.nil)) Xa.nil)))
    (Xs.seq (Xs.set 5 (Xe.callM f_Lnet 2 (Xa.cons (Xe.callM f_Ldraw 2 (Xa.cons (Xe.int 3) Xa.nil)) Xa.nil)))
    (Xs.seq (Xs.set 6 (Xe.callM f_Lstock 2 (Xa.cons (Xe.var 4) Xa.nil)))
    (Xs.seq (Xs.ifS (Xt.of (Xe.op oEq (Xe.callM f_Ldraw 2 (Xa.cons (Xe.int 5) Xa.nil)) (Xe.int 0))) (Xs.set 4 (Xe.callM f_Lno_net 2 (Xa.cons (Xe.var 4) Xa.nil))) Xs.next)
    (Xs.seq (Xs.ifS (Xt.of (Xe.op oEq (Xe.callM f_Ldraw 2 (Xa.cons (Xe.int 5) Xa.nil)) (Xe.int 0))) (Xs.set 5 (Xe.callM f_Lno_net 2 (Xa.cons (Xe.var 5) Xa.nil))) Xs.next)
    (Xs.seq (Xs.set 7 (Xe.strD (Xe.lst (Xa.cons (Xe.var 4) (Xa.cons (Xe.var 5) (Xa.cons (Xe.var 6) Xa.nil))))))
    (Xs.ifS (Xt.or (Xt.of (Xe.op oNeD (Xe.call f_Lrefusal (Xa.cons (Xe.var 4) (Xa.cons (Xe.var 5) (Xa.cons (Xe.var 6) Xa.nil)))) (Xe.call f_Ldue (Xa.cons (Xe.var 4) (Xa.cons (Xe.var 5) (Xa.cons (Xe.var 6) Xa.nil)))))) (Xt.of (Xe.op oNe (Xe.strD (Xe.lst (Xa.cons (Xe.var 4) (Xa.cons (Xe.var 5) (Xa.cons (Xe.var 6) Xa.nil))))) (Xe.var 7)))) (Xs.ret (Xe.bl false)) Xs.next))))))) [3, 4, 5, 6, 7])) [1, 3, 4, 5, 6, 7])
    (Xs.ret (Xe.bl true)))
/-- all that the law calls -/
structure Cals (P : Program) (w : World) (K : PySem.W.Frag) (mg : Str → Option Value) (base : Heap) : Prop where
  c_Lpurse : Cal P w K mg base 2 "_law_purse" (spG K f_Lpurse)
  c_Lnet : Cal P w K mg base 4 "_law_net" (spG K f_Lnet)
  c_Ldraw : Cal P w K mg base 2 "_law_draw" (spG K f_Ldraw)
  c_Lstock : Cal P w K mg base 3 "_law_stock" (spG K f_Lstock)
  c_Lno_net : Cal P w K mg base 3 "_law_no_net" (spG K f_Lno_net)
  c_Lrefusal : Cal P w K mg base 11 "_law_refusal" (spG K f_Lrefusal)
  c_Ldue : Cal P w K mg base 9 "_law_due" (spG K f_Ldue)
theorem pss_law (B : Bi mg) (CC : Cals P w G.K mg base) {f : Addr} {cdv : Value} {s : Shared} {H : Hp} {E : XK} (hr : Room 11 (callerA.deeper (envOfC "law" (defScope s_law) s.heap.objs.size f cdv))) : PSs (cxOf L2.CX0 P w G.K mg base n_law "law" (defScope s_law) f cdv callerA [] s H E).nox (defBody s_law) (b_law.t G) := by
  obtain ⟨c_Lpurse, c_Lnet, c_Ldraw, c_Lstock, c_Lno_net, c_Lrefusal, c_Ldue⟩ := CC
  exact pss_eq
    (pss_cons (ps_for PassesOwn.never rfl (pi_range1 (by rfl) B.range (pa_cons (pe_op op_add pe_int (pe_callB (call_min2 rfl) (by rfl) B.min (by decide +kernel) (pa_cons pe_int (pa_cons (pe_callB call_len (by rfl) B.len PySem.boot_len (pa_cons (pv 0) pa_nil)) pa_nil)))) pa_nil)) (pg_name (i := 1) sc_law.nd rfl (.inl rfl)) (pss_cons (ps_set (i := 2) sc_law.nd rfl (.inl rfl) (pe_d c_Lpurse hr (by decide) (by rfl) (pa_cons (pv 0) (pa_cons (pv 1) pa_nil))))
    (pss_one (ps_for PassesOwn.never rfl (pi_range1 (by rfl) B.range (pa_cons pe_int pa_nil)) (pg_name (i := 3) sc_law.nd rfl (.inl rfl)) (pss_cons (ps_set (i := 4) sc_law.nd rfl (.inl rfl) (pe_d c_Lnet hr (by decide) (by rfl) (pa_cons (pv 2) (pa_cons (pe_d c_Ldraw hr (by decide) (by rfl) (pa_cons (pv 2) (pa_cons pe_int pa_nil))) pa_nil))))
    (pss_cons (ps_set (i := 5) sc_law.nd rfl (.inl rfl) (pe_d c_Lnet hr (by decide) (by rfl) (pa_cons (pv 2) (pa_cons (pe_d c_Ldraw hr (by decide) (by rfl) (pa_cons (pv 2) (pa_cons pe_int pa_nil))) pa_nil))))
    (pss_cons (ps_set (i := 6) sc_law.nd rfl (.inl rfl) (pe_d c_Lstock hr (by decide) (by rfl) (pa_cons (pv 2) (pa_cons (pv 4) pa_nil))))
    (pss_cons (ps_if (pt_cmpR op_eq (pe_d c_Ldraw hr (by decide) (by rfl) (pa_cons (pv 2) (pa_cons pe_int pa_nil))) pe_int (nomark _)) (pss_one (ps_set (i := 4) sc_law.nd rfl (.inl rfl) (pe_d c_Lno_net hr (by decide) (by rfl) (pa_cons (pv 2) (pa_cons (pv 4) pa_nil))))) pss_nil)
    (pss_cons (ps_if (pt_cmpR op_eq (pe_d c_Ldraw hr (by decide) (by rfl) (pa_cons (pv 2) (pa_cons pe_int pa_nil))) pe_int (nomark _)) (pss_one (ps_set (i := 5) sc_law.nd rfl (.inl rfl) (pe_d c_Lno_net hr (by decide) (by rfl) (pa_cons (pv 2) (pa_cons (pv 5) pa_nil))))) pss_nil)
    (pss_cons (ps_set (i := 7) sc_law.nd rfl (.inl rfl) (pe_callTy (call_strD rfl hr.units) (by rfl) B.str PyProof.Rows.boot_str (pa_cons (pe_lst (pa_cons (pv 4) (pa_cons (pv 5) (pa_cons (pv 6) pa_nil)))) pa_nil)))
    (pss_one (ps_if (pw_or (pt_cmpR (op_neD hr.units) (pe_d c_Lrefusal hr (by decide) (by rfl) (pa_cons (pv 4) (pa_cons (pv 5) (pa_cons (pv 6) pa_nil)))) (pe_d c_Ldue hr (by decide) (by rfl) (pa_cons (pv 4) (pa_cons (pv 5) (pa_cons (pv 6) pa_nil)))) (nomark _)) (pw_or1 (pt_cmpR op_ne (pe_callTy (call_strD rfl hr.units) (by rfl) B.str PyProof.Rows.boot_str (pa_cons (pe_lst (pa_cons (pv 4) (pa_cons (pv 5) (pa_cons (pv 6) pa_nil)))) pa_nil)) (pv 7) (nomark _)))).pt (pss_one (ps_ret pe_bl)) pss_nil))))))))))))
    (pss_one (ps_ret pe_bl))) rfl
end
end Nt

set_option Elab.async false
set_option linter.all false
set_option autoImplicit false
set_option maxRecDepth 100000
set_option maxHeartbeats 4000000
/-! The law's own body. -/
namespace Nt
open PySem PySem.Spec PyProof.Rows L2 Lw Px
theorem gd_more {n : Nat} {d : PyData} (h : gd n d = true) : ∀ k : Nat, gd (n + k) d = true
  | 0 => h
  | k + 1 => gd_up _ d (gd_more h k)
theorem three_ok {a b c : PyData} (ha : Fine 10 220000 a) (hb : Fine 10 220000 b) (hc : Fine 10 220000 c) : strOkB (.list [a, b, c]) = true := by
  have h : Fine 11 (3 * 220001) (.list [a, b, c]) := fine_lst (ds := [a, b, c]) (show 3 ≤ 1000 by decide) fun d hd => by
    rcases List.mem_cons.mp hd with e | hd
    · rw [e]; exact ha
    rcases List.mem_cons.mp hd with e | hd
    · rw [e]; exact hb
    · rw [List.mem_singleton.mp hd]; exact hc
  exact fine_strOk ⟨gd_more (n := 11) h.g 19, h.s, h.i, Nat.le_trans h.w (by decide)⟩
/-- a net, or none -/
theorem maybe_is {n : Nat} {qs : List (Str × Int)} {fs : List Fire} {bs : List PyData} (h : PurseOk (n + 2) bs) (W : Web qs fs) : ∃ (c : Int) (bs1 : List PyData) (d : PyData) (bs2 : List PyData),
    f_Ldraw (.own bs) [.int 5] = some (.dat (.int c), bs1) ∧ (if c = 0 then f_Lno_net (.own bs1) [netD qs fs] = some (.dat d, bs2) else d = netD qs fs ∧ bs2 = bs1) ∧ Two d ∧ Fine 10 220000 d ∧ PurseOk n bs2 := by
  obtain ⟨c, bs1, e, c0, c1, p1⟩ := draw_is (n := n + 1) h (m := 5) (by decide) (by decide)
  by_cases hc : c = 0
  · obtain ⟨d, bs2, e2, t, f, p2⟩ := no_net_is (n := n) p1 W
    exact ⟨c, bs1, d, bs2, e, by rw [if_pos hc]; exact e2, t, f, p2⟩
  · exact ⟨c, bs1, netD qs fs, bs1, e, by rw [if_neg hc]; exact ⟨rfl, rfl⟩, two_net qs fs (by have := W.le; omega), (fine_net W 5).le (by decide), p1.less (by omega)⟩
abbrev turnBody : Xs := Xs.seq (Xs.set 4 (Xe.callM f_Lnet 2 (Xa.cons (Xe.callM f_Ldraw 2 (Xa.cons (Xe.int 3) Xa.nil)) Xa.nil)))
    (Xs.seq (Xs.set 5 (Xe.callM f_Lnet 2 (Xa.cons (Xe.callM f_Ldraw 2 (Xa.cons (Xe.int 3) Xa.nil)) Xa.nil)))
    (Xs.seq (Xs.set 6 (Xe.callM f_Lstock 2 (Xa.cons (Xe.var 4) Xa.nil)))
    (Xs.seq (Xs.ifS (Xt.of (Xe.op oEq (Xe.callM f_Ldraw 2 (Xa.cons (Xe.int 5) Xa.nil)) (Xe.int 0))) (Xs.set 4 (Xe.callM f_Lno_net 2 (Xa.cons (Xe.var 4) Xa.nil))) Xs.next)
    (Xs.seq (Xs.ifS (Xt.of (Xe.op oEq (Xe.callM f_Ldraw 2 (Xa.cons (Xe.int 5) Xa.nil)) (Xe.int 0))) (Xs.set 5 (Xe.callM f_Lno_net 2 (Xa.cons (Xe.var 5) Xa.nil))) Xs.next)
    (Xs.seq (Xs.set 7 (Xe.strD (Xe.lst (Xa.cons (Xe.var 4) (Xa.cons (Xe.var 5) (Xa.cons (Xe.var 6) Xa.nil))))))
    (Xs.ifS (Xt.or (Xt.of (Xe.op oNeD (Xe.call f_Lrefusal (Xa.cons (Xe.var 4) (Xa.cons (Xe.var 5) (Xa.cons (Xe.var 6) Xa.nil)))) (Xe.call f_Ldue (Xa.cons (Xe.var 4) (Xa.cons (Xe.var 5) (Xa.cons (Xe.var 6) Xa.nil)))))) (Xt.of (Xe.op oNe (Xe.strD (Xe.lst (Xa.cons (Xe.var 4) (Xa.cons (Xe.var 5) (Xa.cons (Xe.var 6) Xa.nil))))) (Xe.var 7)))) (Xs.ret (Xe.bl false)) Xs.next))))))
section
variable {b : Bool} {v0 v1 v3 v4 v5 v6 v7 : Option AV} {bs bs' bs1 bs2 : List PyData}
theorem draw2 {m d : Int} (h : f_Ldraw (.own bs) [.int m] = some (.dat (.int d), bs')) : (Xe.callM f_Ldraw 2 (Xa.cons (Xe.int m) Xa.nil)).ev [v0, v1, some (.lst b bs), v3, v4, v5, v6, v7] = some (.int d, [v0, v1, some (.lst b bs'), v3, v4, v5, v6, v7]) :=
  callM_ev (i := 2) (b0 := b) (b := b) (ds := bs) (bs := bs) (a' := [v0, v1, some (.lst b bs), v3, v4, v5, v6, v7]) (as := [.int m]) rfl rfl rfl h
theorem net2 {d : Int} {w : PyData} (h : f_Ldraw (.own bs) [.int 3] = some (.dat (.int d), bs1)) (h2 : f_Lnet (.own bs1) [.int d] = some (.dat w, bs2)) : (Xe.callM f_Lnet 2 (Xa.cons (Xe.callM f_Ldraw 2 (Xa.cons (Xe.int 3) Xa.nil)) Xa.nil)).ev [v0, v1, some (.lst b bs), v3, v4, v5, v6, v7] =
    some (w, [v0, v1, some (.lst b bs2), v3, v4, v5, v6, v7]) :=
  callM_ev (i := 2) (b0 := b) (b := b) (ds := bs) (bs := bs1) (a' := [v0, v1, some (.lst b bs1), v3, v4, v5, v6, v7]) (as := [.int d]) rfl (by rw [cons_ev, draw2 h, Option.bind_some, nil_ev]; rfl) rfl h2
theorem stock2 {w st : PyData} (h : f_Lstock (.own bs) [w] = some (.dat st, bs1)) : (Xe.callM f_Lstock 2 (Xa.cons (Xe.var 4) Xa.nil)).ev [v0, v1, some (.lst b bs), v3, some (.dat w), v5, v6, v7] = some (st, [v0, v1, some (.lst b bs1), v3, some (.dat w), v5, v6, v7]) :=
  callM_ev (i := 2) (b0 := b) (b := b) (ds := bs) (bs := bs) (a' := [v0, v1, some (.lst b bs), v3, some (.dat w), v5, v6, v7]) (as := [w]) rfl rfl rfl h
theorem none4 {w d : PyData} (h : f_Lno_net (.own bs) [w] = some (.dat d, bs1)) : (Xe.callM f_Lno_net 2 (Xa.cons (Xe.var 4) Xa.nil)).ev [v0, v1, some (.lst b bs), v3, some (.dat w), v5, v6, v7] = some (d, [v0, v1, some (.lst b bs1), v3, some (.dat w), v5, v6, v7]) :=
  callM_ev (i := 2) (b0 := b) (b := b) (ds := bs) (bs := bs) (a' := [v0, v1, some (.lst b bs), v3, some (.dat w), v5, v6, v7]) (as := [w]) rfl rfl rfl h
theorem none5 {w d : PyData} (h : f_Lno_net (.own bs) [w] = some (.dat d, bs1)) : (Xe.callM f_Lno_net 2 (Xa.cons (Xe.var 5) Xa.nil)).ev [v0, v1, some (.lst b bs), v3, v4, some (.dat w), v6, v7] = some (d, [v0, v1, some (.lst b bs1), v3, v4, some (.dat w), v6, v7]) :=
  callM_ev (i := 2) (b0 := b) (b := b) (ds := bs) (bs := bs) (a' := [v0, v1, some (.lst b bs), v3, v4, some (.dat w), v6, v7]) (as := [w]) rfl rfl rfl h
end
theorem turn_is {n : Nat} {bs : List PyData} (h : PurseOk (n + 420) bs) (b : Bool) (v0 v1 v3 : Option AV) : ∃ (bs' : List PyData) (x4 x5 x6 x7 : Option AV), PurseOk n bs' ∧
    turnBody.run [v0, v1, some (.lst b bs), v3, none, none, none, none] = some (.nx [v0, v1, some (.lst b bs'), v3, x4, x5, x6, x7]) := by
  obtain ⟨s1, bs1, e1, _, _, p1⟩ := draw_is (n := n + 419) h (m := 3) (by decide) (by decide)
  obtain ⟨q1, g1, bs2, e2, n1, l1, p2⟩ := net_is (n := n + 219) p1 s1
  obtain ⟨s2, bs3, e3, _, _, p3⟩ := draw_is (n := n + 218) p2 (m := 3) (by decide) (by decide)
  obtain ⟨q2, g2, bs4, e4, n2, l2, p4⟩ := net_is (n := n + 18) p3 s2
  have W1 := web_of n1 l1
  have W2 := web_of n2 l2
  obtain ⟨st, bs5, e5, sk, sf, p5⟩ := stock_is (n := n + 10) p4 W1
  obtain ⟨c1, bs6, d1, bs7, e6, m1, t1, f1, p6⟩ := maybe_is (n := n + 8) p5 W1
  obtain ⟨c2, bs8, d2, bs9, e8, m2, t2, f2, p8⟩ := maybe_is (n := n) (p6.less (by omega)) W2
  obtain ⟨r, r1, r2, r3⟩ := right_is (gd_more (n := 10) f1.g 10) (gd_more (n := 10) f2.g 10) t1 t2 sk
  have ok := three_ok f1 f2 (sf.le (by decide))
  have k1 : (Xs.ifS (Xt.of (Xe.op oEq (Xe.callM f_Ldraw 2 (Xa.cons (Xe.int 5) Xa.nil)) (Xe.int 0))) (Xs.set 4 (Xe.callM f_Lno_net 2 (Xa.cons (Xe.var 4) Xa.nil))) Xs.next).run [v0, v1, some (.lst b bs5), v3, some (.dat (netD q1 g1)), some (.dat (netD q2 g2)), some (.dat st), none] =
      some (.nx [v0, v1, some (.lst b bs7), v3, some (.dat d1), some (.dat (netD q2 g2)), some (.dat st), none]) := by
    by_cases hc : c1 = 0
    · rw [if_pos hc] at m1
      simp only [Px.gt_zero, Px.gt_succ, Px.st_zero, Px.st_succ, Px.wp_nil, Px.wp_cons, Px.fz_nil, Px.fz_lst, Px.fz_dat, Px.fz_dct, Px.fz_seq, Px.fz_none, Px.tl_nil, Px.tl_cons, Px.ent_no, Px.ent_own, Px.ent_seq, Px.argN_no, Px.argN_own, Px.argN_seq, Px.endO_rt, Px.endO_nx, Px.endO_rf, Px.endO_srt, Px.endO_srf, Px.endO_ort, Px.endO_onx, Px.int_ev, Px.str_ev, Px.bl_ev, Px.non_ev, Px.var_ev, Px.varE_zd, Px.varE_zl, Px.consV_some, Px.varE_s, Px.op_ev, Px.nil_ev, Px.cons_ev, Px.tup_ev, Px.lst_ev, Px.cb_ev, Px.asB_b, Px.andV_ev, Px.orV_ev, Px.notV_ev, Px.of_ev, Px.and_ev, Px.or_ev, Px.not_ev, Px.yes_ev, Px.ttmp_ev, Px.ifE_ev, Px.tmp_ev, Px.flat_int, Px.flat_str, Px.flat_bool, Px.flat_none, Px.asL_l, Px.asT_t, Px.asI_i, Px.asK_d, Px.ofF_ev, Px.flst_ev, Px.lc_ev, Px.asD_d, Px.asF_f, Px.call_ev, Px.fcall_ev, Px.isi_ev, Px.bits_ev, Px.dget_ev, Px.din_ev, Px.rev_ev, Px.orT_ev, Px.qnone_lo, Px.qsome_lo, Px.sl_ev, Px.slL_f, Px.slT_f, Px.lenSeq_ev, Px.neg_ev, Px.add_f, Px.sub_f, Px.and_f, Px.or_f, Px.lt_f, Px.le_f, Px.gt_f, Px.ge_f, Px.eq_f, Px.ne_f, Px.flatQ_i, Px.flatQ_s, Px.flatQ_b, Px.isN_f, Px.notN_f, Px.ix_list, Px.ix_tuple, Px.len_f, Px.lenT_f, Px.tup_f, Px.tupT_f, Px.lst_f, Px.lstT_f, Px.max_f, Px.min_f, Px.int_f, Px.itList_ev, Px.itTup_ev, Px.itEnumT_ev, Px.itRng1_ev, Px.itVals_ev, Px.name_ev, Px.gtup_ev, Px.glst_ev, Px.stN_nil, Px.stN_cons, Px.seqK_nx, Px.seqK_rt, Px.seqK_rf, Px.seqK_bk, Px.seqK_ct, Px.seq_run, Px.next_run, Px.set_run, Px.setF_run, Px.asg_run, Px.ret_run, Px.retF_run, Px.ifS_run, Px.drop_run, Px.newK_run, Px.par2F_run, Px.forS_run, Px.whileS_run, Px.turnK_nx, Px.turnK_ct, Px.turnK_bk, Px.turnK_rt, Px.turnK_rf, Px.for_nil, Px.lcA_nil, Option.bind_some, List.length_cons, List.length_nil, List.length_map, if_true, reduceCtorEq, List.replicate_succ, List.replicate_zero, Nat.reduceAdd, Nat.reduceSub, Nat.reduceLeDiff, draw2 e6, hc, decide_true, if_true, none4 m1]
    · rw [if_neg hc] at m1
      obtain ⟨rfl, rfl⟩ := m1
      simp only [Px.gt_zero, Px.gt_succ, Px.st_zero, Px.st_succ, Px.wp_nil, Px.wp_cons, Px.fz_nil, Px.fz_lst, Px.fz_dat, Px.fz_dct, Px.fz_seq, Px.fz_none, Px.tl_nil, Px.tl_cons, Px.ent_no, Px.ent_own, Px.ent_seq, Px.argN_no, Px.argN_own, Px.argN_seq, Px.endO_rt, Px.endO_nx, Px.endO_rf, Px.endO_srt, Px.endO_srf, Px.endO_ort, Px.endO_onx, Px.int_ev, Px.str_ev, Px.bl_ev, Px.non_ev, Px.var_ev, Px.varE_zd, Px.varE_zl, Px.consV_some, Px.varE_s, Px.op_ev, Px.nil_ev, Px.cons_ev, Px.tup_ev, Px.lst_ev, Px.cb_ev, Px.asB_b, Px.andV_ev, Px.orV_ev, Px.notV_ev, Px.of_ev, Px.and_ev, Px.or_ev, Px.not_ev, Px.yes_ev, Px.ttmp_ev, Px.ifE_ev, Px.tmp_ev, Px.flat_int, Px.flat_str, Px.flat_bool, Px.flat_none, Px.asL_l, Px.asT_t, Px.asI_i, Px.asK_d, Px.ofF_ev, Px.flst_ev, Px.lc_ev, Px.asD_d, Px.asF_f, Px.call_ev, Px.fcall_ev, Px.isi_ev, Px.bits_ev, Px.dget_ev, Px.din_ev, Px.rev_ev, Px.orT_ev, Px.qnone_lo, Px.qsome_lo, Px.sl_ev, Px.slL_f, Px.slT_f, Px.lenSeq_ev, Px.neg_ev, Px.add_f, Px.sub_f, Px.and_f, Px.or_f, Px.lt_f, Px.le_f, Px.gt_f, Px.ge_f, Px.eq_f, Px.ne_f, Px.flatQ_i, Px.flatQ_s, Px.flatQ_b, Px.isN_f, Px.notN_f, Px.ix_list, Px.ix_tuple, Px.len_f, Px.lenT_f, Px.tup_f, Px.tupT_f, Px.lst_f, Px.lstT_f, Px.max_f, Px.min_f, Px.int_f, Px.itList_ev, Px.itTup_ev, Px.itEnumT_ev, Px.itRng1_ev, Px.itVals_ev, Px.name_ev, Px.gtup_ev, Px.glst_ev, Px.stN_nil, Px.stN_cons, Px.seqK_nx, Px.seqK_rt, Px.seqK_rf, Px.seqK_bk, Px.seqK_ct, Px.seq_run, Px.next_run, Px.set_run, Px.setF_run, Px.asg_run, Px.ret_run, Px.retF_run, Px.ifS_run, Px.drop_run, Px.newK_run, Px.par2F_run, Px.forS_run, Px.whileS_run, Px.turnK_nx, Px.turnK_ct, Px.turnK_bk, Px.turnK_rt, Px.turnK_rf, Px.for_nil, Px.lcA_nil, Option.bind_some, List.length_cons, List.length_nil, List.length_map, if_true, reduceCtorEq, List.replicate_succ, List.replicate_zero, Nat.reduceAdd, Nat.reduceSub, Nat.reduceLeDiff, draw2 e6, hc, decide_false, Bool.false_eq_true, if_false]
  have k2 : (Xs.ifS (Xt.of (Xe.op oEq (Xe.callM f_Ldraw 2 (Xa.cons (Xe.int 5) Xa.nil)) (Xe.int 0))) (Xs.set 5 (Xe.callM f_Lno_net 2 (Xa.cons (Xe.var 5) Xa.nil))) Xs.next).run [v0, v1, some (.lst b bs7), v3, some (.dat d1), some (.dat (netD q2 g2)), some (.dat st), none] =
      some (.nx [v0, v1, some (.lst b bs9), v3, some (.dat d1), some (.dat d2), some (.dat st), none]) := by
    by_cases hc : c2 = 0
    · rw [if_pos hc] at m2
      simp only [Px.gt_zero, Px.gt_succ, Px.st_zero, Px.st_succ, Px.wp_nil, Px.wp_cons, Px.fz_nil, Px.fz_lst, Px.fz_dat, Px.fz_dct, Px.fz_seq, Px.fz_none, Px.tl_nil, Px.tl_cons, Px.ent_no, Px.ent_own, Px.ent_seq, Px.argN_no, Px.argN_own, Px.argN_seq, Px.endO_rt, Px.endO_nx, Px.endO_rf, Px.endO_srt, Px.endO_srf, Px.endO_ort, Px.endO_onx, Px.int_ev, Px.str_ev, Px.bl_ev, Px.non_ev, Px.var_ev, Px.varE_zd, Px.varE_zl, Px.consV_some, Px.varE_s, Px.op_ev, Px.nil_ev, Px.cons_ev, Px.tup_ev, Px.lst_ev, Px.cb_ev, Px.asB_b, Px.andV_ev, Px.orV_ev, Px.notV_ev, Px.of_ev, Px.and_ev, Px.or_ev, Px.not_ev, Px.yes_ev, Px.ttmp_ev, Px.ifE_ev, Px.tmp_ev, Px.flat_int, Px.flat_str, Px.flat_bool, Px.flat_none, Px.asL_l, Px.asT_t, Px.asI_i, Px.asK_d, Px.ofF_ev, Px.flst_ev, Px.lc_ev, Px.asD_d, Px.asF_f, Px.call_ev, Px.fcall_ev, Px.isi_ev, Px.bits_ev, Px.dget_ev, Px.din_ev, Px.rev_ev, Px.orT_ev, Px.qnone_lo, Px.qsome_lo, Px.sl_ev, Px.slL_f, Px.slT_f, Px.lenSeq_ev, Px.neg_ev, Px.add_f, Px.sub_f, Px.and_f, Px.or_f, Px.lt_f, Px.le_f, Px.gt_f, Px.ge_f, Px.eq_f, Px.ne_f, Px.flatQ_i, Px.flatQ_s, Px.flatQ_b, Px.isN_f, Px.notN_f, Px.ix_list, Px.ix_tuple, Px.len_f, Px.lenT_f, Px.tup_f, Px.tupT_f, Px.lst_f, Px.lstT_f, Px.max_f, Px.min_f, Px.int_f, Px.itList_ev, Px.itTup_ev, Px.itEnumT_ev, Px.itRng1_ev, Px.itVals_ev, Px.name_ev, Px.gtup_ev, Px.glst_ev, Px.stN_nil, Px.stN_cons, Px.seqK_nx, Px.seqK_rt, Px.seqK_rf, Px.seqK_bk, Px.seqK_ct, Px.seq_run, Px.next_run, Px.set_run, Px.setF_run, Px.asg_run, Px.ret_run, Px.retF_run, Px.ifS_run, Px.drop_run, Px.newK_run, Px.par2F_run, Px.forS_run, Px.whileS_run, Px.turnK_nx, Px.turnK_ct, Px.turnK_bk, Px.turnK_rt, Px.turnK_rf, Px.for_nil, Px.lcA_nil, Option.bind_some, List.length_cons, List.length_nil, List.length_map, if_true, reduceCtorEq, List.replicate_succ, List.replicate_zero, Nat.reduceAdd, Nat.reduceSub, Nat.reduceLeDiff, draw2 e8, hc, decide_true, if_true, none5 m2]
    · rw [if_neg hc] at m2
      obtain ⟨rfl, rfl⟩ := m2
      simp only [Px.gt_zero, Px.gt_succ, Px.st_zero, Px.st_succ, Px.wp_nil, Px.wp_cons, Px.fz_nil, Px.fz_lst, Px.fz_dat, Px.fz_dct, Px.fz_seq, Px.fz_none, Px.tl_nil, Px.tl_cons, Px.ent_no, Px.ent_own, Px.ent_seq, Px.argN_no, Px.argN_own, Px.argN_seq, Px.endO_rt, Px.endO_nx, Px.endO_rf, Px.endO_srt, Px.endO_srf, Px.endO_ort, Px.endO_onx, Px.int_ev, Px.str_ev, Px.bl_ev, Px.non_ev, Px.var_ev, Px.varE_zd, Px.varE_zl, Px.consV_some, Px.varE_s, Px.op_ev, Px.nil_ev, Px.cons_ev, Px.tup_ev, Px.lst_ev, Px.cb_ev, Px.asB_b, Px.andV_ev, Px.orV_ev, Px.notV_ev, Px.of_ev, Px.and_ev, Px.or_ev, Px.not_ev, Px.yes_ev, Px.ttmp_ev, Px.ifE_ev, Px.tmp_ev, Px.flat_int, Px.flat_str, Px.flat_bool, Px.flat_none, Px.asL_l, Px.asT_t, Px.asI_i, Px.asK_d, Px.ofF_ev, Px.flst_ev, Px.lc_ev, Px.asD_d, Px.asF_f, Px.call_ev, Px.fcall_ev, Px.isi_ev, Px.bits_ev, Px.dget_ev, Px.din_ev, Px.rev_ev, Px.orT_ev, Px.qnone_lo, Px.qsome_lo, Px.sl_ev, Px.slL_f, Px.slT_f, Px.lenSeq_ev, Px.neg_ev, Px.add_f, Px.sub_f, Px.and_f, Px.or_f, Px.lt_f, Px.le_f, Px.gt_f, Px.ge_f, Px.eq_f, Px.ne_f, Px.flatQ_i, Px.flatQ_s, Px.flatQ_b, Px.isN_f, Px.notN_f, Px.ix_list, Px.ix_tuple, Px.len_f, Px.lenT_f, Px.tup_f, Px.tupT_f, Px.lst_f, Px.lstT_f, Px.max_f, Px.min_f, Px.int_f, Px.itList_ev, Px.itTup_ev, Px.itEnumT_ev, Px.itRng1_ev, Px.itVals_ev, Px.name_ev, Px.gtup_ev, Px.glst_ev, Px.stN_nil, Px.stN_cons, Px.seqK_nx, Px.seqK_rt, Px.seqK_rf, Px.seqK_bk, Px.seqK_ct, Px.seq_run, Px.next_run, Px.set_run, Px.setF_run, Px.asg_run, Px.ret_run, Px.retF_run, Px.ifS_run, Px.drop_run, Px.newK_run, Px.par2F_run, Px.forS_run, Px.whileS_run, Px.turnK_nx, Px.turnK_ct, Px.turnK_bk, Px.turnK_rt, Px.turnK_rf, Px.for_nil, Px.lcA_nil, Option.bind_some, List.length_cons, List.length_nil, List.length_map, if_true, reduceCtorEq, List.replicate_succ, List.replicate_zero, Nat.reduceAdd, Nat.reduceSub, Nat.reduceLeDiff, draw2 e8, hc, decide_false, Bool.false_eq_true, if_false]
  refine ⟨bs9, some (.dat d1), some (.dat d2), some (.dat st), some (.dat (.str (Px.strD (.list [d1, d2, st])))), p8, ?_⟩
  unfold turnBody
  rw [seq_run, set_run, net2 e1 e2]
  simp only [Option.bind_some, seqK_nx, st_succ, st_zero]
  rw [seq_run, set_run, net2 e3 e4]
  simp only [Option.bind_some, seqK_nx, st_succ, st_zero]
  rw [seq_run, set_run, stock2 e5]
  simp only [Option.bind_some, seqK_nx, st_succ, st_zero]
  rw [seq_run, k1]
  simp only [Option.bind_some, seqK_nx]
  rw [seq_run, k2]
  simp only [Option.bind_some, seqK_nx]
  have lt3 : (3 : Nat) ≤ 100000 := by decide
  simp only [Px.gt_zero, Px.gt_succ, Px.st_zero, Px.st_succ, Px.wp_nil, Px.wp_cons, Px.fz_nil, Px.fz_lst, Px.fz_dat, Px.fz_dct, Px.fz_seq, Px.fz_none, Px.tl_nil, Px.tl_cons, Px.ent_no, Px.ent_own, Px.ent_seq, Px.argN_no, Px.argN_own, Px.argN_seq, Px.endO_rt, Px.endO_nx, Px.endO_rf, Px.endO_srt, Px.endO_srf, Px.endO_ort, Px.endO_onx, Px.int_ev, Px.str_ev, Px.bl_ev, Px.non_ev, Px.var_ev, Px.varE_zd, Px.varE_zl, Px.consV_some, Px.varE_s, Px.op_ev, Px.nil_ev, Px.cons_ev, Px.tup_ev, Px.lst_ev, Px.cb_ev, Px.asB_b, Px.andV_ev, Px.orV_ev, Px.notV_ev, Px.of_ev, Px.and_ev, Px.or_ev, Px.not_ev, Px.yes_ev, Px.ttmp_ev, Px.ifE_ev, Px.tmp_ev, Px.flat_int, Px.flat_str, Px.flat_bool, Px.flat_none, Px.asL_l, Px.asT_t, Px.asI_i, Px.asK_d, Px.ofF_ev, Px.flst_ev, Px.lc_ev, Px.asD_d, Px.asF_f, Px.call_ev, Px.fcall_ev, Px.isi_ev, Px.bits_ev, Px.dget_ev, Px.din_ev, Px.rev_ev, Px.orT_ev, Px.qnone_lo, Px.qsome_lo, Px.sl_ev, Px.slL_f, Px.slT_f, Px.lenSeq_ev, Px.neg_ev, Px.add_f, Px.sub_f, Px.and_f, Px.or_f, Px.lt_f, Px.le_f, Px.gt_f, Px.ge_f, Px.eq_f, Px.ne_f, Px.flatQ_i, Px.flatQ_s, Px.flatQ_b, Px.isN_f, Px.notN_f, Px.ix_list, Px.ix_tuple, Px.len_f, Px.lenT_f, Px.tup_f, Px.tupT_f, Px.lst_f, Px.lstT_f, Px.max_f, Px.min_f, Px.int_f, Px.itList_ev, Px.itTup_ev, Px.itEnumT_ev, Px.itRng1_ev, Px.itVals_ev, Px.name_ev, Px.gtup_ev, Px.glst_ev, Px.stN_nil, Px.stN_cons, Px.seqK_nx, Px.seqK_rt, Px.seqK_rf, Px.seqK_bk, Px.seqK_ct, Px.seq_run, Px.next_run, Px.set_run, Px.setF_run, Px.asg_run, Px.ret_run, Px.retF_run, Px.ifS_run, Px.drop_run, Px.newK_run, Px.par2F_run, Px.forS_run, Px.whileS_run, Px.turnK_nx, Px.turnK_ct, Px.turnK_bk, Px.turnK_rt, Px.turnK_rf, Px.for_nil, Px.lcA_nil, Option.bind_some, List.length_cons, List.length_nil, List.length_map, if_true, reduceCtorEq, List.replicate_succ, List.replicate_zero, Nat.reduceAdd, Nat.reduceSub, Nat.reduceLeDiff, strD_ev, ok, if_true, r1, r2, same_is r3, decide_true, Bool.not_true, Bool.false_eq_true, if_false, List.length_cons, List.length_nil, Nat.reduceAdd, Nat.reduceLeDiff]
theorem turns_loop {n : Nat} (b : Bool) (v0 v1 : Option AV) : ∀ (m : Nat) (k : Int) (bs : List PyData), PurseOk (n + 420 * m) bs → ∃ bs' : List PyData,
    forA (Xg.name 3) turnBody [3, 4, 5, 6, 7] (intsD k m) [v0, v1, some (.lst b bs), none, none, none, none, none] = some (.nx [v0, v1, some (.lst b bs'), none, none, none, none, none])
  | 0, k, bs, _ => ⟨bs, rfl⟩
  | m + 1, k, bs, h => by
    obtain ⟨bs1, x4, x5, x6, x7, p, e⟩ := turn_is (n := n + 420 * m) (h.less (by omega)) b v0 v1 (some (.dat (.int k)))
    obtain ⟨bs2, e2⟩ := turns_loop (n := n) b v0 v1 m (k + 1) bs1 p
    refine ⟨bs2, ?_⟩
    rw [intsD_s, for_cons, name_ev]
    simp only [Option.bind_some, st_succ, st_zero]
    rw [e]
    simp only [Option.bind_some, turnK_nx, wp_cons, wp_nil, st_succ, st_zero]
    exact e2
abbrev cellBody : Xs := Xs.seq (Xs.setF 2 (Xf.callS f_Lpurse 0 (Xa.cons (Xe.var 1) Xa.nil))) (Xs.forS (itRng1 (Xe.int 4)) (Xg.name 3) turnBody [3, 4, 5, 6, 7])
theorem cell_turn (ns : List Int) (k : Nat) (hk : k ≤ 100) (v2 : Option AV) : ∃ w : Option AV, cellBody.run [some (.seq ns), some (.dat (.int (k : Int))), v2, none, none, none, none, none] = some (.nx [some (.seq ns), some (.dat (.int (k : Int))), w, none, none, none, none, none]) := by
  obtain ⟨bs, e0, h0⟩ := purse_is ns k hk
  obtain ⟨bs1, e1⟩ := turns_loop (n := 0) false (some (.seq ns)) (some (.dat (.int (k : Int)))) 4 0 bs (h0.less (by decide))
  refine ⟨some (.lst false bs1), ?_⟩
  have E0 : (Xf.callS f_Lpurse 0 (Xa.cons (Xe.var 1) Xa.nil)).ev [some (.seq ns), some (.dat (.int (k : Int))), v2, none, none, none, none, none] = some (bs, [some (.seq ns), some (.dat (.int (k : Int))), v2, none, none, none, none, none]) :=
    fcallS_ev (ns := ns) (as := [.int (k : Int)]) (by rfl) (by simp only [Px.gt_zero, Px.gt_succ, Px.st_zero, Px.st_succ, Px.wp_nil, Px.wp_cons, Px.fz_nil, Px.fz_lst, Px.fz_dat, Px.fz_dct, Px.fz_seq, Px.fz_none, Px.tl_nil, Px.tl_cons, Px.ent_no, Px.ent_own, Px.ent_seq, Px.argN_no, Px.argN_own, Px.argN_seq, Px.endO_rt, Px.endO_nx, Px.endO_rf, Px.endO_srt, Px.endO_srf, Px.endO_ort, Px.endO_onx, Px.int_ev, Px.str_ev, Px.bl_ev, Px.non_ev, Px.var_ev, Px.varE_zd, Px.varE_zl, Px.consV_some, Px.varE_s, Px.op_ev, Px.nil_ev, Px.cons_ev, Px.tup_ev, Px.lst_ev, Px.cb_ev, Px.asB_b, Px.andV_ev, Px.orV_ev, Px.notV_ev, Px.of_ev, Px.and_ev, Px.or_ev, Px.not_ev, Px.yes_ev, Px.ttmp_ev, Px.ifE_ev, Px.tmp_ev, Px.flat_int, Px.flat_str, Px.flat_bool, Px.flat_none, Px.asL_l, Px.asT_t, Px.asI_i, Px.asK_d, Px.ofF_ev, Px.flst_ev, Px.lc_ev, Px.asD_d, Px.asF_f, Px.call_ev, Px.fcall_ev, Px.isi_ev, Px.bits_ev, Px.dget_ev, Px.din_ev, Px.rev_ev, Px.orT_ev, Px.qnone_lo, Px.qsome_lo, Px.sl_ev, Px.slL_f, Px.slT_f, Px.lenSeq_ev, Px.neg_ev, Px.add_f, Px.sub_f, Px.and_f, Px.or_f, Px.lt_f, Px.le_f, Px.gt_f, Px.ge_f, Px.eq_f, Px.ne_f, Px.flatQ_i, Px.flatQ_s, Px.flatQ_b, Px.isN_f, Px.notN_f, Px.ix_list, Px.ix_tuple, Px.len_f, Px.lenT_f, Px.tup_f, Px.tupT_f, Px.lst_f, Px.lstT_f, Px.max_f, Px.min_f, Px.int_f, Px.itList_ev, Px.itTup_ev, Px.itEnumT_ev, Px.itRng1_ev, Px.itVals_ev, Px.name_ev, Px.gtup_ev, Px.glst_ev, Px.stN_nil, Px.stN_cons, Px.seqK_nx, Px.seqK_rt, Px.seqK_rf, Px.seqK_bk, Px.seqK_ct, Px.seq_run, Px.next_run, Px.set_run, Px.setF_run, Px.asg_run, Px.ret_run, Px.retF_run, Px.ifS_run, Px.drop_run, Px.newK_run, Px.par2F_run, Px.forS_run, Px.whileS_run, Px.turnK_nx, Px.turnK_ct, Px.turnK_bk, Px.turnK_rt, Px.turnK_rf, Px.for_nil, Px.lcA_nil, Option.bind_some, List.length_cons, List.length_nil, List.length_map, if_true, reduceCtorEq, List.replicate_succ, List.replicate_zero, Nat.reduceAdd, Nat.reduceSub, Nat.reduceLeDiff]) e0
  unfold cellBody
  rw [seq_run, setF_run, E0]
  simp only [Option.bind_some, seqK_nx, st_succ, st_zero]
  rw [forS_run, itRng1_ev, int_ev, Option.bind_some, asI_i, Option.bind_some, if_pos (by decide), Option.bind_some]
  simp only [wp_cons, wp_nil, st_succ, st_zero]
  exact e1
theorem cells_loop (ns : List Int) : ∀ (m k : Nat) (v2 : Option AV), k + m ≤ 100 → ∃ w : Option AV, forA (Xg.name 1) cellBody [1, 3, 4, 5, 6, 7] (intsD k m) [some (.seq ns), none, v2, none, none, none, none, none] = some (.nx [some (.seq ns), none, w, none, none, none, none, none])
  | 0, k, v2, _ => ⟨v2, rfl⟩
  | m + 1, k, v2, h => by
    obtain ⟨w, e⟩ := cell_turn ns k (by omega) v2
    obtain ⟨w2, e2⟩ := cells_loop ns m (k + 1) w (by omega)
    refine ⟨w2, ?_⟩
    rw [intsD_s, show (k : Int) + 1 = ((k + 1 : Nat) : Int) from rfl, for_cons, name_ev]
    simp only [Option.bind_some, st_succ, st_zero]
    rw [e]
    simp only [Option.bind_some, turnK_nx, wp_cons, wp_nil, st_succ, st_zero]
    exact e2
theorem law_run (ns : List Int) : ∃ a, b_law.run [some (.seq ns), none, none, none, none, none, none, none] = some (.rt (.bool true) a) := by
  obtain ⟨m, hm, hl⟩ : ∃ m : Nat, ((1 : Int) + if (ns.length : Int) < 4 then (ns.length : Int) else 4) = (m : Int) ∧ m ≤ 5 := ⟨1 + min 4 ns.length, by split <;> omega, by omega⟩
  obtain ⟨w, e⟩ := cells_loop ns m 0 none (by omega)
  refine ⟨[some (.seq ns), none, w, none, none, none, none, none], ?_⟩
  have c : (m : Int) ≤ 100000 ∧ -100000 ≤ (m : Int) := by omega
  unfold b_law
  rw [seq_run, forS_run, itRng1_ev]
  simp only [Px.gt_zero, Px.gt_succ, Px.st_zero, Px.st_succ, Px.wp_nil, Px.wp_cons, Px.fz_nil, Px.fz_lst, Px.fz_dat, Px.fz_dct, Px.fz_seq, Px.fz_none, Px.tl_nil, Px.tl_cons, Px.ent_no, Px.ent_own, Px.ent_seq, Px.argN_no, Px.argN_own, Px.argN_seq, Px.endO_rt, Px.endO_nx, Px.endO_rf, Px.endO_srt, Px.endO_srf, Px.endO_ort, Px.endO_onx, Px.int_ev, Px.str_ev, Px.bl_ev, Px.non_ev, Px.var_ev, Px.varE_zd, Px.varE_zl, Px.consV_some, Px.varE_s, Px.op_ev, Px.nil_ev, Px.cons_ev, Px.tup_ev, Px.lst_ev, Px.cb_ev, Px.asB_b, Px.andV_ev, Px.orV_ev, Px.notV_ev, Px.of_ev, Px.and_ev, Px.or_ev, Px.not_ev, Px.yes_ev, Px.ttmp_ev, Px.ifE_ev, Px.tmp_ev, Px.flat_int, Px.flat_str, Px.flat_bool, Px.flat_none, Px.asL_l, Px.asT_t, Px.asI_i, Px.asK_d, Px.ofF_ev, Px.flst_ev, Px.lc_ev, Px.asD_d, Px.asF_f, Px.call_ev, Px.fcall_ev, Px.isi_ev, Px.bits_ev, Px.dget_ev, Px.din_ev, Px.rev_ev, Px.orT_ev, Px.qnone_lo, Px.qsome_lo, Px.sl_ev, Px.slL_f, Px.slT_f, Px.lenSeq_ev, Px.neg_ev, Px.add_f, Px.sub_f, Px.and_f, Px.or_f, Px.lt_f, Px.le_f, Px.gt_f, Px.ge_f, Px.eq_f, Px.ne_f, Px.flatQ_i, Px.flatQ_s, Px.flatQ_b, Px.isN_f, Px.notN_f, Px.ix_list, Px.ix_tuple, Px.len_f, Px.lenT_f, Px.tup_f, Px.tupT_f, Px.lst_f, Px.lstT_f, Px.max_f, Px.min_f, Px.int_f, Px.itList_ev, Px.itTup_ev, Px.itEnumT_ev, Px.itRng1_ev, Px.itVals_ev, Px.name_ev, Px.gtup_ev, Px.glst_ev, Px.stN_nil, Px.stN_cons, Px.seqK_nx, Px.seqK_rt, Px.seqK_rf, Px.seqK_bk, Px.seqK_ct, Px.seq_run, Px.next_run, Px.set_run, Px.setF_run, Px.asg_run, Px.ret_run, Px.retF_run, Px.ifS_run, Px.drop_run, Px.newK_run, Px.par2F_run, Px.forS_run, Px.whileS_run, Px.turnK_nx, Px.turnK_ct, Px.turnK_bk, Px.turnK_rt, Px.turnK_rf, Px.for_nil, Px.lcA_nil, Option.bind_some, List.length_cons, List.length_nil, List.length_map, if_true, reduceCtorEq, List.replicate_succ, List.replicate_zero, Nat.reduceAdd, Nat.reduceSub, Nat.reduceLeDiff, hm, if_pos c, Int.toNat_natCast]
  have e' : forA (Xg.name 1) cellBody [1, 3, 4, 5, 6, 7] (intsD 0 m) [some (.seq ns), none, none, none, none, none, none, none] = some (.nx [some (.seq ns), none, w, none, none, none, none, none]) := e
  unfold cellBody turnBody at e'
  rw [e']
  rfl
end Nt

set_option Elab.async false
set_option linter.all false
set_option autoImplicit false
set_option maxRecDepth 100000
set_option maxHeartbeats 8000000
/-! The law's own def, called from the top: there nothing is being written out (no guards), which str(x) of nested data wants. -/
namespace Lw
open PySem PySem.Spec PyProof.Rows L2
/-- what a def's body makes at the top -/
def TopBody (P : Program) (w : World) (K : PySem.W.Frag) (mg : Str → Option Value) (N : List Str) (qual : Str) (scope : Scope) (body : List Stmt) (f : Addr) (cd : Value) (a : Addr) (ns : List Int) : Prop :=
  ∀ (base : Heap) (s : Shared) (H : Hp), Mod K mg base → SqL K H a (ns.map V.int) →
    ∃ t, PSs (cxOf CX0 P w K mg base N qual scope f cd callerA [] s H L2.E0).nox body t ∧ t { nx := fun _ _ => False, rt := fun v _ => v = .bl true } (start N [.ref a]) H
section
variable {P : Program} {w : World} {K : PySem.W.Frag} {mg mb : Str → Option Value} {f a : Addr} {fd : FuncData} {x qual name : Str} {s1 : Shared} {vs : List Value} {ns : List Int} {N : List Str} {params : Arguments} {body : List Stmt} {scope : Scope}
  {dV kV doc pm cd ct oc : Value} {an od : Option Addr} {osl : Array (Option Value)}
theorem top_at (lk : K.lookup f = some ⟨oc, od, .func (PySem.W.fnOf name qual params body scope dV kV doc pm an cd ct), osl⟩) (hcd : PySem.W.codeIn K cd qual = true) (S : FnScope N [x] scope)
    (hB : TopBody P w K mg N qual scope body f cd a ns) (bind : ∀ (s : Shared) (u : Value), BindsTo s (PySem.W.fnOf name qual params body scope dV kV doc pm an cd ct) ⟨[u], []⟩ [(x, u)])
    (kin : K.In s1.heap) (gl : s1.heap.Ns mainGlobals mg) (bl : s1.heap.Ns builtinsNs mb) (bb : ∀ x : Str, x ≠ "__name__" → mb x = bootBuiltins x) (lim : s1.heap.NoLimit) (gens : s1.gens = #[])
    (obj : s1.heap.get? a = some { cls := .type "list", data := .seq vs.toArray })
    (H : Hp) (sq : SqL K H a (ns.map V.int)) (hok : HOk P w H s1.heap) (at_ : ∀ b, H b ≠ none → b = a ∧ K.lookup b = none ∧ ∃ o u, H b = some (.frz o u)) :
    codeAny (model P w) callerA (.call (.ref f) ⟨[.ref a], []⟩) (fun r s' => r = .ok (.ret (.bool true)) ∧ OldK s1.heap s'.heap ∧ s'.os = s1.os ∧ AllBare s'.gens) s1 := by
  have room : callerA.depth < recursionLimit := by decide +kernel
  -- what is tracked is neither the module's own nor a dict
  have off : ∀ {b : Addr} {o : Obj}, s1.heap.get? b = some o → (K.lookup b ≠ none ∨ ∃ es ep, o.data = .dict es ep) → H b = none := fun {b o} g c => by
    cases q : H b with
    | none => rfl
    | some u =>
      obtain ⟨eb, ek, _⟩ := at_ b (by rw [q]; exact fun z => nomatch z)
      rcases c with c | ⟨es, ep, c⟩
      · exact (c ek).elim
      · subst eb
        rw [obj] at g
        obtain rfl := Option.some.inj g
        exact nomatch c
  have nsOff : ∀ {b : Addr} {m : Str → Option Value}, s1.heap.Ns b m → (hidT s1.heap H).Ns b m := fun ⟨o, es, ep, g, dd, rest⟩ => ⟨o, es, ep, hidT_get g (off g (.inr ⟨es, ep, dd⟩)), dd, rest⟩
  have mod : Mod K mg (hidT s1.heap H) := {
    kin := fun b o g => hidT_get (kin b o g) (off (kin b o g) (.inl (by rw [g]; exact fun z => nomatch z)))
    glob := nsOff gl
    blt := ⟨mb, nsOff bl, bb⟩
    nolimit := by
      obtain ⟨mc, l1, l2⟩ := lim
      exact ⟨mc, nsOff l1, l2⟩ }
  have env0 : Env0 P w K mg (hidT s1.heap H) callerA [] s1 H := {
    frames := rfl
    mod := mod
    bs := fun b o g => of_hidT g
    bsz := by rw [hidT_size]; exact Nat.le_refl _
    funs := trivial
    frf := fun b hb => (List.not_mem_nil hb).elim
    hok := hok
    bare := .of_eq gens }
  obtain ⟨t, ht, fin⟩ := hB _ s1 H mod sq
  refine codeAny_call_function room (kin _ _ lk) rfl S.co S.gen rfl (PySem.W.codeRec_of kin hcd) (bind s1 (.ref a) _ _ _ _ ?_)
  refine wpAny_newFunctionEnv_cells S.kind (fun y hy => ?_) fun e he s2 inc => ?_
  · obtain rfl : y = (x, Value.ref a) := List.mem_singleton.mp hy
    rcases S.par x List.mem_cons_self with l | c
    · exact Or.inl l
    · exact Or.inr ⟨c, PySem.W.cellsFrom_some _ _ _ (Or.inl c)⟩
  · cases he
    refine ⟨lim.keeps inc.toInCall.keep, codeAny_func ?_⟩
    have inv := inv_start (CX := CX0) (cd := cd) (f := f) (qual := qual) (E := L2.E0) (us := [.ref a]) (vs := [.ref a]) S rfl env0 rfl (.cons rfl .nil) inc
    refine wpAny_mono (ht.nox.run [] s2 _ H _ inv fin) (fun fl s3 z => ?_) fun e s3 z => wpAny_mono z (fun _ _ h => h.elim) fun _ _ h => h.elim
    cases fl with
    | ret u =>
      obtain ⟨v, σ2, H2, j, rv, ev⟩ := z
      subst ev
      obtain rfl : u = Value.bool true := rv
      refine ⟨rfl, OldK.of_keep fun b o g => ?_, j.os, j.bare⟩
      by_cases q : H b = none
      · exact j.base.keep b o g q List.not_mem_nil List.not_mem_nil
      · obtain ⟨_, _, o2, u2, q2⟩ := at_ b q
        have g1 : s1.heap.get? b = some o2 := (hok b _ q2).1
        have g2 : s3.heap.get? b = some o2 := (j.hok b _ (j.base.frzs b o2 u2 q2)).1
        rw [g1] at g
        obtain rfl := Option.some.inj g
        exact g2
    | next =>
      obtain ⟨_, _, _, n⟩ := z
      exact n.elim
    | brk =>
      obtain ⟨_, _, _, n⟩ := z
      exact n.elim
    | cont =>
      obtain ⟨_, _, _, n⟩ := z
      exact n.elim
end
end Lw

set_option Elab.async false
set_option linter.all false
set_option autoImplicit false
set_option maxRecDepth 100000
set_option maxHeartbeats 4000000
/-! What the top has written of a class of errors. -/
namespace Px
open PySem PySem.Spec PyProof.Rows L2 Lw
/-- the i-th statement of a class's body -/
def inClass : Stmt → Nat → Stmt
  | .ClassDef _ _ _ body _ _ _ _ _ _ _, i => body.getD i (.Pass ⟨0, 0, 0, 0⟩)
  | s, _ => s
/-- the class z at C: what a raise of it asks, and what asks of one that was caught ask -/
structure ClsF (K : PySem.W.Frag) (mg : Str → Option Value) (z : Str) (C : Addr) : Prop where
  n : PySem.W.nsIn K mainGlobals z = some (some (.ref C))
  m : mg z = some (.ref C)
  T : OexC K C
  x : ExcC K C
  ty : PySem.W.typeIn K (.ref C) = some (.type "type")
  nt : PySem.W.subIn K (.type "NoneType") (.ref C) = some false
theorem ClsF.of {K : PySem.W.Frag} {mg : Str → Option Value} {z : Str} {C : Addr} (c : ClsF K mg z C) : clsOf K z = .ref C := by
  unfold clsOf
  rw [c.n]
theorem isCls_of {K : PySem.W.Frag} {C : Addr} (h : PySem.W.hasDictIn K C = true) : (PySem.W.clsIn K C).isSome = true := by
  obtain ⟨cd, hc, _⟩ := PySem.W.any_some h
  rw [hc]
  rfl
theorem kitCls_of {K : PySem.W.Frag} {t : Value} {C : Addr} {b : Bool} (h : PySem.W.hasDictIn K C = true) (ty : PySem.W.typeIn K (.ref C) = some (.type "type")) (hs : PySem.W.subIn K t (.ref C) = some b) : PySem.W.kitCls K t (.ref C) = some b := by
  have e : ((PySem.W.clsIn K C).isSome && PySem.W.typeIn K (.ref C) == some (.type "type")) = true := by
    rw [isCls_of h, ty]
    rfl
  show (if _ = true then _ else _) = _
  rw [if_pos e]
  exact hs
/-- all that a catching def asks, by facts of the written part -/
theorem errC_of {K : PySem.W.Frag} {mg : Str → Option Value} {top : Str} {zs : List Str} {flds : List (Str × Str)} {C0 : Addr} (at_ : Str → Addr)
    (t1 : PySem.W.nsIn K mainGlobals top = some (some (.ref C0))) (t2 : mg top = some (.ref C0)) (t3 : PySem.W.subIn K (.ref C0) (.type "BaseException") = some true) (t4 : PySem.W.hasDictIn K C0 = true) (t5 : PySem.W.typeIn K (.ref C0) = some (.type "type"))
    (cl : ∀ z ∈ zs, ClsF K mg z (at_ z)) (s0 : ∀ z ∈ zs, PySem.W.subIn K (.ref (at_ z)) (.ref C0) = some true) (ss : ∀ z ∈ zs, ∀ y ∈ zs, PySem.W.subIn K (.ref (at_ z)) (.ref (at_ y)) = some (decide (z = y)))
    (hf : ∀ p ∈ flds, p.1 ∈ zs ∧ PySem.W.findIn K (.ref (at_ p.1)) p.2 = some none) : ErrC K mg top zs flds := by
  have e0 : clsOf K top = .ref C0 := by
    unfold clsOf
    rw [t1]
  refine ⟨⟨C0, t2, e0⟩, fun y hy => ⟨⟨_, (cl y hy).of⟩, ?_⟩, ⟨fun z hz => ⟨_, (cl z hz).of, (cl z hz).x, ?_⟩, fun z hz y hy => ?_⟩, fun y hy => ⟨_, (cl y hy).m, (cl y hy).of⟩, fun p hp => ?_⟩
  · rw [(cl y hy).of, e0]
    exact PySem.W.exm_ref t3 t4 t5 (s0 y hy)
  · unfold PySem.W.kitOne
    rw [if_neg (by intro q; cases (beq_iff_eq.mp q))]
    exact kitCls_of (cl z hz).x.hd (cl z hz).ty (cl z hz).nt
  · rw [(cl z hz).of, (cl y hy).of]
    unfold PySem.W.kitOne
    by_cases q : (Value.ref (at_ z) == Value.ref (at_ y)) = true
    · rw [if_pos q]
      have e : at_ z = at_ y := Value.ref.inj (beq_iff_eq.mp q)
      have h1 := ss z hz z hz
      have h2 := ss z hz y hy
      rw [← e] at h2
      rw [h1] at h2
      rw [← Option.some.inj h2]
      simp
    · rw [if_neg q]
      exact kitCls_of (cl y hy).x.hd (cl y hy).ty (ss z hz y hy)
  · obtain ⟨h1, h2⟩ := hf p hp
    have c := cl p.1 h1
    have e : clsA K p.1 = at_ p.1 := by
      unfold clsA
      rw [c.of]
    rw [e]
    exact ⟨⟨c.x.hg, c.x.hk, c.x.hs, c.x.hd⟩, h2⟩
/-- an __init__ that keeps one field -/
structure IniF (K : PySem.W.Frag) (C : Addr) (q f : Str) (st : Stmt) : Prop where
  nb : PySem.W.findIn K (.ref C) f = some none
  ex : ∃ (fI : Addr) (fd : FuncData), PySem.W.findIn K (.ref C) "__init__" = some (some (.ref fI)) ∧ PySem.W.typeIn K (.ref fI) = some (.type "function") ∧ L2.FunD K "__init__" q (defArgs st) (defBody st) (defScope st) [.non] [] fI fd
theorem ini1 {P : Program} {w : World} {K : PySem.W.Frag} {mg : Str → Option Value} {base : Heap} {z q f : Str} {C : Addr} {st : Stmt} (c : ClsF K mg z C) (F : IniF K C q f st) (S : FnScope ["self", f] ["self", f] (defScope st))
    (hb : ∀ (fI : Addr) (cdv : Value) (A : Around) (outer : List PySem.Env) (s : Shared) (H : Hp) (E : XK), PSs (cxOf L2.CX0 P w K mg base ["self", f] q (defScope st) fI cdv A outer s H E) (defBody st) (tOst K f (tVar 0) (tVar 1)))
    (hd : ∀ (T : Addr) (kV doc pm : Value) (an : Option Addr) (cdv ct : Value) (us its : List Value), us.length = 2 → its.length = 1 →
      ∃ k, bindArgs (PySem.W.fnOf "__init__" q (defArgs st) (defBody st) (defScope st) (.ref T) kV doc pm an cdv ct) ⟨us, []⟩ = seqItems? (.ref T) >>= k ∧ k (some its.toArray) = pure ((["self", f] : List Str).zip us)) : IniC P w K mg base 1 z [f] := by
  obtain ⟨fI, fd, a1, t1, FD⟩ := F.ex
  obtain ⟨ds, hv, hbd⟩ := FD.binds1 (ps := ["self", f]) 2 1 (by simp) rfl fun T kV doc pm an cdv ct us its hu hi => by
    obtain ⟨k, k1, k2⟩ := hd T kV doc pm an cdv ct us its hu hi
    refine ⟨k, k1, ?_⟩
    rw [k2]
    match its, hi with
    | [x], _ => rw [List.drop_succ_cons, List.drop_zero, List.append_nil]
  cases hv
  refine ⟨C, fI, fd, ["self", f], c.of, c.m, c.T, a1, t1, FD.ok S (fun vs H Q E h => ?_) fun cdv A outer s H vs Q E hr h => ⟨_, hb fI cdv A outer s H E, ?_⟩, hbd⟩
  · obtain ⟨a, ws, rfl, hl, _⟩ := h
    rw [List.length_cons, hl]
    rfl
  · obtain ⟨a, ws, rfl, hl, ha, k⟩ := h
    match ws, hl with
    | [y], _ =>
      refine ⟨y, rfl, .ref a, rfl, a, C, rfl, c.T, F.nb, .inl ⟨ha, fun dx hd hne => k dx _ hd hne upd_same ((upd_ne hne).trans upd_same) fun b h1 h2 => (upd_ne h1).trans (upd_ne h2)⟩⟩
end Px

set_option Elab.async false
set_option linter.all false
set_option autoImplicit false
set_option maxRecDepth 100000
set_option maxHeartbeats 4000000
/-! What the top has written of a class of errors: its facts, one by one. -/
namespace Px
open PySem PySem.Spec PyProof.Rows L2 Lw
section
variable {K : PySem.W.Frag} {h : Heap} {mg : Str → Option Value} {z q f : Str} {C C0 fI T : Addr} {st : Stmt}
theorem oex_mk {nm q : Str} {N : Addr} {bs : List Value} {sn : List Str} {sub : List Value} {ab : Bool} {col : Option Bool} {dd : Option Addr} {m0 m1 m2 m3 m5 : Option Value}
    (xL : K.lookup C = some (excClassObj nm q C N bs [.ref C0, .type "ValueError", .type "Exception", .type "BaseException", .type "object"] true sn sub ab col dd m0 m1 m2 m3 m5 "ValueError.__new__"))
    (sa : PySem.W.findIn K (.ref C) "__setattr__" = some (some (.builtin "object.__setattr__"))) (eC : PySem.W.subIn K (.ref C) (.type "BaseException") = some true) (tC : PySem.W.typeIn K (.ref C) = some (.type "type")) (kC : PySem.W.keepIn K (.ref C) = true) : OexC K C :=
  ⟨⟨nm, q, N, bs, _, sn, sub, ab, col, dd, m0, m1, m2, m3, m5, xL, show PySem.HandSPX.refsVE [.type "ValueError", .type "Exception", .type "BaseException", .type "object"] = true by decide +kernel⟩, sa, eC, tC, kC⟩
theorem clsF_mk (X : K.In h) (G : h.Ns mainGlobals mg) (n : PySem.W.nsIn K mainGlobals z = some (some (.ref C))) (T : OexC K C) (x1 : PySem.W.findIn K (.ref C) "__getattribute__" = some (some (.builtin "BaseException.__getattribute__"))) (x2 : PySem.W.findIn K (.ref C) "__getattr__" = some none)
    (x3 : PySem.W.hasDictIn K C = true) (x4 : PySem.W.findIn K (.ref C) "__class__" = some (some (.builtin "object.__class__"))) (x5 : PySem.W.specialIn K (.builtin "object.__class__") "__get__" = some (some (.builtin "getset_descriptor.__get__"))) (x6 : PySem.W.takesIn K (.builtin "object.__class__") = some true)
    (x7 : PySem.W.mroIn K C (.type "object") = some true) (nt : PySem.W.subIn K (.type "NoneType") (.ref C) = some false) : ClsF K mg z C :=
  ⟨n, PySem.W.mg_of X G n, T, ⟨x1, x2, T.exC, x3, x4, x5, x6, x7⟩, T.tyC, nt⟩
theorem iniF_mk {oc kV dc pm cd ct : Value} {od an dT : Option Addr} {osl sT : Array (Option Value)} {n : Nat} (nb : PySem.W.findIn K (.ref C) f = some none) (a : PySem.W.findIn K (.ref C) "__init__" = some (some (.ref fI))) (t : PySem.W.typeIn K (.ref fI) = some (.type "function"))
    (l : K.lookup fI = some ⟨oc, od, .func (PySem.W.fnOf "__init__" q (defArgs st) (defBody st) (defScope st) (.ref T) kV dc pm an cd ct), osl⟩) (c : PySem.W.codeIn K cd q = true) (k : PySem.W.keepIn K (.ref fI) = true) (lT : K.lookup T = some ⟨.type "tuple", dT, .seq #[.none] n, sT⟩) : IniF K C q f st :=
  ⟨nb, fI, _, a, t, ⟨⟨oc, od, .ref T, kV, dc, pm, an, cd, ct, osl, rfl, l, c, .inr ⟨by simp, T, _, [.none], n, rfl, lT, rfl, .cons rfl .nil⟩, .inl rfl⟩, k⟩⟩
end
end Px

set_option Elab.async false
set_option linter.all false
set_option autoImplicit false
set_option maxRecDepth 100000
set_option maxHeartbeats 8000000
/-! What the top has written. -/
namespace Nt
open PySem PySem.Spec PyProof.Rows L2 Lw Px
section
variable {P : Program} {w : World} {K : PySem.W.Frag} {mg : Str → Option Value} {base : Heap}
theorem defAt_mk {h : Heap} (X : K.In h) (G : h.Ns mainGlobals mg) {x : Str} {st : Stmt} {ps : List Str} {f : Addr} {oc kV dc pm cd ct : Value} {od an : Option Addr} {osl : Array (Option Value)}
    (a : PySem.W.nsIn K mainGlobals x = some (some (.ref f))) (l : K.lookup f = some ⟨oc, od, .func (PySem.W.fnOf x x (defArgs st) (defBody st) (defScope st) .none kV dc pm an cd ct), osl⟩) (c : PySem.W.codeIn K cd x = true) (k : PySem.W.keepIn K (.ref f) = true)
    (b : ∀ (kV doc pm : Value) (an : Option Addr) (cdv ct : Value) (us : List Value), us.length = ps.length → bindArgs (PySem.W.fnOf x x (defArgs st) (defBody st) (defScope st) .none kV doc pm an cdv ct) ⟨us, []⟩ = pure (ps.zip us)) : DefAt K mg x st ps := by
  have F := fun_mk (st := st) l c k
  exact ⟨f, _, F, PySem.W.mg_of X G a, F.binds b⟩
theorem bd_sWhole : ∀ (kV doc pm : Value) (an : Option Addr) (cdv ct : Value) (us : List Value), us.length = (["thing"] : List Str).length → bindArgs (PySem.W.fnOf "is_whole" "is_whole" (defArgs sWhole) (defBody sWhole) (defScope sWhole) .none kV doc pm an cdv ct) ⟨us, []⟩ = pure ((["thing"] : List Str).zip us) := fun _ _ _ _ _ _ us hl => match us, hl with | [_], _ => rfl
theorem bd_sName : ∀ (kV doc pm : Value) (an : Option Addr) (cdv ct : Value) (us : List Value), us.length = (["thing"] : List Str).length → bindArgs (PySem.W.fnOf "is_name" "is_name" (defArgs sName) (defBody sName) (defScope sName) .none kV doc pm an cdv ct) ⟨us, []⟩ = pure ((["thing"] : List Str).zip us) := fun _ _ _ _ _ _ us hl => match us, hl with | [_], _ => rfl
theorem bd_sTupOf : ∀ (kV doc pm : Value) (an : Option Addr) (cdv ct : Value) (us : List Value), us.length = (["thing", "many"] : List Str).length → bindArgs (PySem.W.fnOf "is_tuple_of" "is_tuple_of" (defArgs sTupOf) (defBody sTupOf) (defScope sTupOf) .none kV doc pm an cdv ct) ⟨us, []⟩ = pure ((["thing", "many"] : List Str).zip us) := fun _ _ _ _ _ _ us hl => match us, hl with | [_, _], _ => rfl
theorem bd_sCounted : ∀ (kV doc pm : Value) (an : Option Addr) (cdv ct : Value) (us : List Value), us.length = (["thing", "least"] : List Str).length → bindArgs (PySem.W.fnOf "is_counted" "is_counted" (defArgs sCounted) (defBody sCounted) (defScope sCounted) .none kV doc pm an cdv ct) ⟨us, []⟩ = pure ((["thing", "least"] : List Str).zip us) := fun _ _ _ _ _ _ us hl => match us, hl with | [_, _], _ => rfl
theorem bd_sParts : ∀ (kV doc pm : Value) (an : Option Addr) (cdv ct : Value) (us : List Value), us.length = (["thing"] : List Str).length → bindArgs (PySem.W.fnOf "is_parts" "is_parts" (defArgs sParts) (defBody sParts) (defScope sParts) .none kV doc pm an cdv ct) ⟨us, []⟩ = pure ((["thing"] : List Str).zip us) := fun _ _ _ _ _ _ us hl => match us, hl with | [_], _ => rfl
theorem bd_sFiring : ∀ (kV doc pm : Value) (an : Option Addr) (cdv ct : Value) (us : List Value), us.length = (["thing"] : List Str).length → bindArgs (PySem.W.fnOf "is_firing" "is_firing" (defArgs sFiring) (defBody sFiring) (defScope sFiring) .none kV doc pm an cdv ct) ⟨us, []⟩ = pure ((["thing"] : List Str).zip us) := fun _ _ _ _ _ _ us hl => match us, hl with | [_], _ => rfl
theorem bd_sNumbers : ∀ (kV doc pm : Value) (an : Option Addr) (cdv ct : Value) (us : List Value), us.length = (["named"] : List Str).length → bindArgs (PySem.W.fnOf "numbers_of" "numbers_of" (defArgs sNumbers) (defBody sNumbers) (defScope sNumbers) .none kV doc pm an cdv ct) ⟨us, []⟩ = pure ((["named"] : List Str).zip us) := fun _ _ _ _ _ _ us hl => match us, hl with | [_], _ => rfl
theorem bd_sNet : ∀ (kV doc pm : Value) (an : Option Addr) (cdv ct : Value) (us : List Value), us.length = (["thing"] : List Str).length → bindArgs (PySem.W.fnOf "net_wrong" "net_wrong" (defArgs sNet) (defBody sNet) (defScope sNet) .none kV doc pm an cdv ct) ⟨us, []⟩ = pure ((["thing"] : List Str).zip us) := fun _ _ _ _ _ _ us hl => match us, hl with | [_], _ => rfl
theorem bd_sPlaces : ∀ (kV doc pm : Value) (an : Option Addr) (cdv ct : Value) (us : List Value), us.length = (["places"] : List Str).length → bindArgs (PySem.W.fnOf "places_wrong" "places_wrong" (defArgs sPlaces) (defBody sPlaces) (defScope sPlaces) .none kV doc pm an cdv ct) ⟨us, []⟩ = pure ((["places"] : List Str).zip us) := fun _ _ _ _ _ _ us hl => match us, hl with | [_], _ => rfl
theorem bd_sFirings : ∀ (kV doc pm : Value) (an : Option Addr) (cdv ct : Value) (us : List Value), us.length = (["places", "firings"] : List Str).length → bindArgs (PySem.W.fnOf "firings_wrong" "firings_wrong" (defArgs sFirings) (defBody sFirings) (defScope sFirings) .none kV doc pm an cdv ct) ⟨us, []⟩ = pure ((["places", "firings"] : List Str).zip us) := fun _ _ _ _ _ _ us hl => match us, hl with | [_, _], _ => rfl
theorem bd_sBad : ∀ (kV doc pm : Value) (an : Option Addr) (cdv ct : Value) (us : List Value), us.length = (["numbers", "firing"] : List Str).length → bindArgs (PySem.W.fnOf "bad_part" "bad_part" (defArgs sBad) (defBody sBad) (defScope sBad) .none kV doc pm an cdv ct) ⟨us, []⟩ = pure ((["numbers", "firing"] : List Str).zip us) := fun _ _ _ _ _ _ us hl => match us, hl with | [_, _], _ => rfl
theorem bd_sCheck : ∀ (kV doc pm : Value) (an : Option Addr) (cdv ct : Value) (us : List Value), us.length = (["net"] : List Str).length → bindArgs (PySem.W.fnOf "check_net" "check_net" (defArgs sCheck) (defBody sCheck) (defScope sCheck) .none kV doc pm an cdv ct) ⟨us, []⟩ = pure ((["net"] : List Str).zip us) := fun _ _ _ _ _ _ us hl => match us, hl with | [_], _ => rfl
theorem bd_s_heap_flaw : ∀ (kV doc pm : Value) (an : Option Addr) (cdv ct : Value) (us : List Value), us.length = (["net", "thing"] : List Str).length → bindArgs (PySem.W.fnOf "heap_flaw" "heap_flaw" (defArgs s_heap_flaw) (defBody s_heap_flaw) (defScope s_heap_flaw) .none kV doc pm an cdv ct) ⟨us, []⟩ = pure ((["net", "thing"] : List Str).zip us) := fun _ _ _ _ _ _ us hl => match us, hl with | [_, _], _ => rfl
theorem bd_s_heap_wrong : ∀ (kV doc pm : Value) (an : Option Addr) (cdv ct : Value) (us : List Value), us.length = (["net", "thing"] : List Str).length → bindArgs (PySem.W.fnOf "heap_wrong" "heap_wrong" (defArgs s_heap_wrong) (defBody s_heap_wrong) (defScope s_heap_wrong) .none kV doc pm an cdv ct) ⟨us, []⟩ = pure ((["net", "thing"] : List Str).zip us) := fun _ _ _ _ _ _ us hl => match us, hl with | [_, _], _ => rfl
theorem bd_s_check_heap : ∀ (kV doc pm : Value) (an : Option Addr) (cdv ct : Value) (us : List Value), us.length = (["net", "heap"] : List Str).length → bindArgs (PySem.W.fnOf "check_heap" "check_heap" (defArgs s_check_heap) (defBody s_check_heap) (defScope s_check_heap) .none kV doc pm an cdv ct) ⟨us, []⟩ = pure ((["net", "heap"] : List Str).zip us) := fun _ _ _ _ _ _ us hl => match us, hl with | [_, _], _ => rfl
theorem bd_s_led : ∀ (kV doc pm : Value) (an : Option Addr) (cdv ct : Value) (us : List Value), us.length = (["net", "other", "heap", "names"] : List Str).length → bindArgs (PySem.W.fnOf "led" "led" (defArgs s_led) (defBody s_led) (defScope s_led) .none kV doc pm an cdv ct) ⟨us, []⟩ = pure ((["net", "other", "heap", "names"] : List Str).zip us) := fun _ _ _ _ _ _ us hl => match us, hl with | [_, _, _, _], _ => rfl
theorem bd_s_Lat : ∀ (kV doc pm : Value) (an : Option Addr) (cdv ct : Value) (us : List Value), us.length = (["_law_script", "_law_k"] : List Str).length → bindArgs (PySem.W.fnOf "_law_at" "_law_at" (defArgs s_Lat) (defBody s_Lat) (defScope s_Lat) .none kV doc pm an cdv ct) ⟨us, []⟩ = pure ((["_law_script", "_law_k"] : List Str).zip us) := fun _ _ _ _ _ _ us hl => match us, hl with | [_, _], _ => rfl
theorem bd_s_Lmixed : ∀ (kV doc pm : Value) (an : Option Addr) (cdv ct : Value) (us : List Value), us.length = (["_law_cell", "_law_k"] : List Str).length → bindArgs (PySem.W.fnOf "_law_mixed" "_law_mixed" (defArgs s_Lmixed) (defBody s_Lmixed) (defScope s_Lmixed) .none kV doc pm an cdv ct) ⟨us, []⟩ = pure ((["_law_cell", "_law_k"] : List Str).zip us) := fun _ _ _ _ _ _ us hl => match us, hl with | [_, _], _ => rfl
theorem bd_s_Lpurse : ∀ (kV doc pm : Value) (an : Option Addr) (cdv ct : Value) (us : List Value), us.length = (["_law_script", "_law_at_here"] : List Str).length → bindArgs (PySem.W.fnOf "_law_purse" "_law_purse" (defArgs s_Lpurse) (defBody s_Lpurse) (defScope s_Lpurse) .none kV doc pm an cdv ct) ⟨us, []⟩ = pure ((["_law_script", "_law_at_here"] : List Str).zip us) := fun _ _ _ _ _ _ us hl => match us, hl with | [_, _], _ => rfl
theorem bd_s_Ldraw : ∀ (kV doc pm : Value) (an : Option Addr) (cdv ct : Value) (us : List Value), us.length = (["_law_purse_here", "_law_out_of"] : List Str).length → bindArgs (PySem.W.fnOf "_law_draw" "_law_draw" (defArgs s_Ldraw) (defBody s_Ldraw) (defScope s_Ldraw) .none kV doc pm an cdv ct) ⟨us, []⟩ = pure ((["_law_purse_here", "_law_out_of"] : List Str).zip us) := fun _ _ _ _ _ _ us hl => match us, hl with | [_, _], _ => rfl
theorem bd_s_Lparts : ∀ (kV doc pm : Value) (an : Option Addr) (cdv ct : Value) (us : List Value), us.length = (["_law_purse_here", "_law_names", "_law_many"] : List Str).length → bindArgs (PySem.W.fnOf "_law_parts" "_law_parts" (defArgs s_Lparts) (defBody s_Lparts) (defScope s_Lparts) .none kV doc pm an cdv ct) ⟨us, []⟩ = pure ((["_law_purse_here", "_law_names", "_law_many"] : List Str).zip us) := fun _ _ _ _ _ _ us hl => match us, hl with | [_, _, _], _ => rfl
theorem bd_s_Leven : ∀ (kV doc pm : Value) (an : Option Addr) (cdv ct : Value) (us : List Value), us.length = (["_law_purse_here", "_law_names"] : List Str).length → bindArgs (PySem.W.fnOf "_law_even" "_law_even" (defArgs s_Leven) (defBody s_Leven) (defScope s_Leven) .none kV doc pm an cdv ct) ⟨us, []⟩ = pure ((["_law_purse_here", "_law_names"] : List Str).zip us) := fun _ _ _ _ _ _ us hl => match us, hl with | [_, _], _ => rfl
theorem bd_s_Lnet : ∀ (kV doc pm : Value) (an : Option Addr) (cdv ct : Value) (us : List Value), us.length = (["_law_purse_here", "_law_sort"] : List Str).length → bindArgs (PySem.W.fnOf "_law_net" "_law_net" (defArgs s_Lnet) (defBody s_Lnet) (defScope s_Lnet) .none kV doc pm an cdv ct) ⟨us, []⟩ = pure ((["_law_purse_here", "_law_sort"] : List Str).zip us) := fun _ _ _ _ _ _ us hl => match us, hl with | [_, _], _ => rfl
theorem bd_s_Lno_net : ∀ (kV doc pm : Value) (an : Option Addr) (cdv ct : Value) (us : List Value), us.length = (["_law_purse_here", "_law_web"] : List Str).length → bindArgs (PySem.W.fnOf "_law_no_net" "_law_no_net" (defArgs s_Lno_net) (defBody s_Lno_net) (defScope s_Lno_net) .none kV doc pm an cdv ct) ⟨us, []⟩ = pure ((["_law_purse_here", "_law_web"] : List Str).zip us) := fun _ _ _ _ _ _ us hl => match us, hl with | [_, _], _ => rfl
theorem bd_s_Lstock : ∀ (kV doc pm : Value) (an : Option Addr) (cdv ct : Value) (us : List Value), us.length = (["_law_purse_here", "_law_web"] : List Str).length → bindArgs (PySem.W.fnOf "_law_stock" "_law_stock" (defArgs s_Lstock) (defBody s_Lstock) (defScope s_Lstock) .none kV doc pm an cdv ct) ⟨us, []⟩ = pure ((["_law_purse_here", "_law_web"] : List Str).zip us) := fun _ _ _ _ _ _ us hl => match us, hl with | [_, _], _ => rfl
theorem bd_s_Ldue : ∀ (kV doc pm : Value) (an : Option Addr) (cdv ct : Value) (us : List Value), us.length = (["_law_one", "_law_two", "_law_stock_here"] : List Str).length → bindArgs (PySem.W.fnOf "_law_due" "_law_due" (defArgs s_Ldue) (defBody s_Ldue) (defScope s_Ldue) .none kV doc pm an cdv ct) ⟨us, []⟩ = pure ((["_law_one", "_law_two", "_law_stock_here"] : List Str).zip us) := fun _ _ _ _ _ _ us hl => match us, hl with | [_, _, _], _ => rfl
theorem bd_s_Lrefusal : ∀ (kV doc pm : Value) (an : Option Addr) (cdv ct : Value) (us : List Value), us.length = (["_law_one", "_law_two", "_law_stock_here"] : List Str).length → bindArgs (PySem.W.fnOf "_law_refusal" "_law_refusal" (defArgs s_Lrefusal) (defBody s_Lrefusal) (defScope s_Lrefusal) .none kV doc pm an cdv ct) ⟨us, []⟩ = pure ((["_law_one", "_law_two", "_law_stock_here"] : List Str).zip us) := fun _ _ _ _ _ _ us hl => match us, hl with | [_, _, _], _ => rfl
structure Defs (K : PySem.W.Frag) (mg : Str → Option Value) : Prop where
  d_sWhole : DefAt K mg "is_whole" sWhole ["thing"]
  d_sName : DefAt K mg "is_name" sName ["thing"]
  d_sTupOf : DefAt K mg "is_tuple_of" sTupOf ["thing", "many"]
  d_sCounted : DefAt K mg "is_counted" sCounted ["thing", "least"]
  d_sParts : DefAt K mg "is_parts" sParts ["thing"]
  d_sFiring : DefAt K mg "is_firing" sFiring ["thing"]
  d_sNumbers : DefAt K mg "numbers_of" sNumbers ["named"]
  d_sNet : DefAt K mg "net_wrong" sNet ["thing"]
  d_sPlaces : DefAt K mg "places_wrong" sPlaces ["places"]
  d_sFirings : DefAt K mg "firings_wrong" sFirings ["places", "firings"]
  d_sBad : DefAt K mg "bad_part" sBad ["numbers", "firing"]
  d_sCheck : DefAt K mg "check_net" sCheck ["net"]
  d_s_heap_flaw : DefAt K mg "heap_flaw" s_heap_flaw ["net", "thing"]
  d_s_heap_wrong : DefAt K mg "heap_wrong" s_heap_wrong ["net", "thing"]
  d_s_check_heap : DefAt K mg "check_heap" s_check_heap ["net", "heap"]
  d_s_led : DefAt K mg "led" s_led ["net", "other", "heap", "names"]
  d_s_Lat : DefAt K mg "_law_at" s_Lat ["_law_script", "_law_k"]
  d_s_Lmixed : DefAt K mg "_law_mixed" s_Lmixed ["_law_cell", "_law_k"]
  d_s_Lpurse : DefAt K mg "_law_purse" s_Lpurse ["_law_script", "_law_at_here"]
  d_s_Ldraw : DefAt K mg "_law_draw" s_Ldraw ["_law_purse_here", "_law_out_of"]
  d_s_Lparts : DefAt K mg "_law_parts" s_Lparts ["_law_purse_here", "_law_names", "_law_many"]
  d_s_Leven : DefAt K mg "_law_even" s_Leven ["_law_purse_here", "_law_names"]
  d_s_Lnet : DefAt K mg "_law_net" s_Lnet ["_law_purse_here", "_law_sort"]
  d_s_Lno_net : DefAt K mg "_law_no_net" s_Lno_net ["_law_purse_here", "_law_web"]
  d_s_Lstock : DefAt K mg "_law_stock" s_Lstock ["_law_purse_here", "_law_web"]
  d_s_Ldue : DefAt K mg "_law_due" s_Ldue ["_law_one", "_law_two", "_law_stock_here"]
  d_s_Lrefusal : DefAt K mg "_law_refusal" s_Lrefusal ["_law_one", "_law_two", "_law_stock_here"]
abbrev si_NoNet : Stmt := Px.inClass (topS 2) 0
theorem sci_NoNet : FnScope ["self", "wrong"] ["self", "wrong"] (defScope si_NoNet) := ⟨rfl, rfl, rfl, by decide +kernel, rfl, by decide +kernel, by decide +kernel⟩
theorem ini_NoNet (h : ∃ C, ClsF K mg "NoNet" C ∧ IniF K C "NoNet.__init__" "wrong" si_NoNet) : IniC P w K mg base 1 "NoNet" ["wrong"] := by
  obtain ⟨C, c, F⟩ := h
  exact ini1 c F sci_NoNet (fun fI cdv A outer s H E => pss_one (ps_ost (pv 0) (pv 1))) fun T kV doc pm an cdv ct us its hu hi => match us, hu, its, hi with | [_, _], _, [_], _ => ⟨_, rfl, rfl⟩
abbrev si_NoHeap : Stmt := Px.inClass (topS 3) 0
theorem sci_NoHeap : FnScope ["self", "wrong"] ["self", "wrong"] (defScope si_NoHeap) := ⟨rfl, rfl, rfl, by decide +kernel, rfl, by decide +kernel, by decide +kernel⟩
theorem ini_NoHeap (h : ∃ C, ClsF K mg "NoHeap" C ∧ IniF K C "NoHeap.__init__" "wrong" si_NoHeap) : IniC P w K mg base 1 "NoHeap" ["wrong"] := by
  obtain ⟨C, c, F⟩ := h
  exact ini1 c F sci_NoHeap (fun fI cdv A outer s H E => pss_one (ps_ost (pv 0) (pv 1))) fun T kV doc pm an cdv ct us its hu hi => match us, hu, its, hi with | [_, _], _, [_], _ => ⟨_, rfl, rfl⟩
abbrev si_Gone : Stmt := Px.inClass (topS 4) 0
theorem sci_Gone : FnScope ["self", "place"] ["self", "place"] (defScope si_Gone) := ⟨rfl, rfl, rfl, by decide +kernel, rfl, by decide +kernel, by decide +kernel⟩
theorem ini_Gone (h : ∃ C, ClsF K mg "Gone" C ∧ IniF K C "Gone.__init__" "place" si_Gone) : IniC P w K mg base 1 "Gone" ["place"] := by
  obtain ⟨C, c, F⟩ := h
  exact ini1 c F sci_Gone (fun fI cdv A outer s H E => pss_one (ps_ost (pv 0) (pv 1))) fun T kV doc pm an cdv ct us its hu hi => match us, hu, its, hi with | [_, _], _, [_], _ => ⟨_, rfl, rfl⟩
structure Errs (K : PySem.W.Frag) (mg : Str → Option Value) : Prop where
  er : ErrC K mg "NetError" ["NoNet", "NoHeap", "Gone"] [("NoNet", "wrong"), ("NoHeap", "wrong")]
  i_NoNet : ∃ C, ClsF K mg "NoNet" C ∧ IniF K C "NoNet.__init__" "wrong" si_NoNet
  i_NoHeap : ∃ C, ClsF K mg "NoHeap" C ∧ IniF K C "NoHeap.__init__" "wrong" si_NoHeap
  i_Gone : ∃ C, ClsF K mg "Gone" C ∧ IniF K C "Gone.__init__" "place" si_Gone
theorem errs_mk {h : Heap} (X : K.In h) (G : h.Ns mainGlobals mg) {C0 : Addr} {C1 N1 fI1 T1 : Addr} {nm1 q1 : Str} {bs1 : List Value} {sn1 : List Str} {sub1 : List Value} {ab1 : Bool} {col1 : Option Bool} {dd1 : Option Addr} {ma1 mb1 mc1 md1 me1 : Option Value} {oc1 kV1 dc1 pm1 cd1 ct1 : Value} {od1 an1 dT1 : Option Addr} {osl1 sT1 : Array (Option Value)} {nn1 : Nat} {C2 N2 fI2 T2 : Addr} {nm2 q2 : Str} {bs2 : List Value} {sn2 : List Str} {sub2 : List Value} {ab2 : Bool} {col2 : Option Bool} {dd2 : Option Addr} {ma2 mb2 mc2 md2 me2 : Option Value} {oc2 kV2 dc2 pm2 cd2 ct2 : Value} {od2 an2 dT2 : Option Addr} {osl2 sT2 : Array (Option Value)} {nn2 : Nat} {C3 N3 fI3 T3 : Addr} {nm3 q3 : Str} {bs3 : List Value} {sn3 : List Str} {sub3 : List Value} {ab3 : Bool} {col3 : Option Bool} {dd3 : Option Addr} {ma3 mb3 mc3 md3 me3 : Option Value} {oc3 kV3 dc3 pm3 cd3 ct3 : Value} {od3 an3 dT3 : Option Addr} {osl3 sT3 : Array (Option Value)} {nn3 : Nat}
    (t1 : PySem.W.nsIn K mainGlobals "NetError" = some (some (.ref C0))) (t3 : PySem.W.subIn K (.ref C0) (.type "BaseException") = some true) (t4 : PySem.W.hasDictIn K C0 = true) (t5 : PySem.W.typeIn K (.ref C0) = some (.type "type")) (x5 : PySem.W.specialIn K (.builtin "object.__class__") "__get__" = some (some (.builtin "getset_descriptor.__get__"))) (x6 : PySem.W.takesIn K (.builtin "object.__class__") = some true) (n1 : PySem.W.nsIn K mainGlobals "NoNet" = some (some (.ref C1))) (xL1 : K.lookup C1 = some (excClassObj nm1 q1 C1 N1 bs1 [.ref C0, .type "ValueError", .type "Exception", .type "BaseException", .type "object"] true sn1 sub1 ab1 col1 dd1 ma1 mb1 mc1 md1 me1 "ValueError.__new__")) (sa1 : PySem.W.findIn K (.ref C1) "__setattr__" = some (some (.builtin "object.__setattr__"))) (eC1 : PySem.W.subIn K (.ref C1) (.type "BaseException") = some true) (tC1 : PySem.W.typeIn K (.ref C1) = some (.type "type")) (kC1 : PySem.W.keepIn K (.ref C1) = true) (xa1 : PySem.W.findIn K (.ref C1) "__getattribute__" = some (some (.builtin "BaseException.__getattribute__"))) (xb1 : PySem.W.findIn K (.ref C1) "__getattr__" = some none) (xc1 : PySem.W.hasDictIn K C1 = true) (xd1 : PySem.W.findIn K (.ref C1) "__class__" = some (some (.builtin "object.__class__"))) (xe1 : PySem.W.mroIn K C1 (.type "object") = some true) (nt1 : PySem.W.subIn K (.type "NoneType") (.ref C1) = some false) (nb1 : PySem.W.findIn K (.ref C1) "wrong" = some none) (a1 : PySem.W.findIn K (.ref C1) "__init__" = some (some (.ref fI1))) (ti1 : PySem.W.typeIn K (.ref fI1) = some (.type "function")) (l1 : K.lookup fI1 = some ⟨oc1, od1, .func (PySem.W.fnOf "__init__" "NoNet.__init__" (defArgs si_NoNet) (defBody si_NoNet) (defScope si_NoNet) (.ref T1) kV1 dc1 pm1 an1 cd1 ct1), osl1⟩) (c1 : PySem.W.codeIn K cd1 "NoNet.__init__" = true) (k1 : PySem.W.keepIn K (.ref fI1) = true) (lT1 : K.lookup T1 = some ⟨.type "tuple", dT1, .seq #[.none] nn1, sT1⟩) (n2 : PySem.W.nsIn K mainGlobals "NoHeap" = some (some (.ref C2))) (xL2 : K.lookup C2 = some (excClassObj nm2 q2 C2 N2 bs2 [.ref C0, .type "ValueError", .type "Exception", .type "BaseException", .type "object"] true sn2 sub2 ab2 col2 dd2 ma2 mb2 mc2 md2 me2 "ValueError.__new__")) (sa2 : PySem.W.findIn K (.ref C2) "__setattr__" = some (some (.builtin "object.__setattr__"))) (eC2 : PySem.W.subIn K (.ref C2) (.type "BaseException") = some true) (tC2 : PySem.W.typeIn K (.ref C2) = some (.type "type")) (kC2 : PySem.W.keepIn K (.ref C2) = true) (xa2 : PySem.W.findIn K (.ref C2) "__getattribute__" = some (some (.builtin "BaseException.__getattribute__"))) (xb2 : PySem.W.findIn K (.ref C2) "__getattr__" = some none) (xc2 : PySem.W.hasDictIn K C2 = true) (xd2 : PySem.W.findIn K (.ref C2) "__class__" = some (some (.builtin "object.__class__"))) (xe2 : PySem.W.mroIn K C2 (.type "object") = some true) (nt2 : PySem.W.subIn K (.type "NoneType") (.ref C2) = some false) (nb2 : PySem.W.findIn K (.ref C2) "wrong" = some none) (a2 : PySem.W.findIn K (.ref C2) "__init__" = some (some (.ref fI2))) (ti2 : PySem.W.typeIn K (.ref fI2) = some (.type "function")) (l2 : K.lookup fI2 = some ⟨oc2, od2, .func (PySem.W.fnOf "__init__" "NoHeap.__init__" (defArgs si_NoHeap) (defBody si_NoHeap) (defScope si_NoHeap) (.ref T2) kV2 dc2 pm2 an2 cd2 ct2), osl2⟩) (c2 : PySem.W.codeIn K cd2 "NoHeap.__init__" = true) (k2 : PySem.W.keepIn K (.ref fI2) = true) (lT2 : K.lookup T2 = some ⟨.type "tuple", dT2, .seq #[.none] nn2, sT2⟩) (n3 : PySem.W.nsIn K mainGlobals "Gone" = some (some (.ref C3))) (xL3 : K.lookup C3 = some (excClassObj nm3 q3 C3 N3 bs3 [.ref C0, .type "ValueError", .type "Exception", .type "BaseException", .type "object"] true sn3 sub3 ab3 col3 dd3 ma3 mb3 mc3 md3 me3 "ValueError.__new__")) (sa3 : PySem.W.findIn K (.ref C3) "__setattr__" = some (some (.builtin "object.__setattr__"))) (eC3 : PySem.W.subIn K (.ref C3) (.type "BaseException") = some true) (tC3 : PySem.W.typeIn K (.ref C3) = some (.type "type")) (kC3 : PySem.W.keepIn K (.ref C3) = true) (xa3 : PySem.W.findIn K (.ref C3) "__getattribute__" = some (some (.builtin "BaseException.__getattribute__"))) (xb3 : PySem.W.findIn K (.ref C3) "__getattr__" = some none) (xc3 : PySem.W.hasDictIn K C3 = true) (xd3 : PySem.W.findIn K (.ref C3) "__class__" = some (some (.builtin "object.__class__"))) (xe3 : PySem.W.mroIn K C3 (.type "object") = some true) (nt3 : PySem.W.subIn K (.type "NoneType") (.ref C3) = some false) (nb3 : PySem.W.findIn K (.ref C3) "place" = some none) (a3 : PySem.W.findIn K (.ref C3) "__init__" = some (some (.ref fI3))) (ti3 : PySem.W.typeIn K (.ref fI3) = some (.type "function")) (l3 : K.lookup fI3 = some ⟨oc3, od3, .func (PySem.W.fnOf "__init__" "Gone.__init__" (defArgs si_Gone) (defBody si_Gone) (defScope si_Gone) (.ref T3) kV3 dc3 pm3 an3 cd3 ct3), osl3⟩) (c3 : PySem.W.codeIn K cd3 "Gone.__init__" = true) (k3 : PySem.W.keepIn K (.ref fI3) = true) (lT3 : K.lookup T3 = some ⟨.type "tuple", dT3, .seq #[.none] nn3, sT3⟩) (s1 : PySem.W.subIn K (.ref C1) (.ref C0) = some true) (s2 : PySem.W.subIn K (.ref C2) (.ref C0) = some true) (s3 : PySem.W.subIn K (.ref C3) (.ref C0) = some true) (s1_1 : PySem.W.subIn K (.ref C1) (.ref C1) = some true) (s1_2 : PySem.W.subIn K (.ref C1) (.ref C2) = some false) (s1_3 : PySem.W.subIn K (.ref C1) (.ref C3) = some false) (s2_1 : PySem.W.subIn K (.ref C2) (.ref C1) = some false) (s2_2 : PySem.W.subIn K (.ref C2) (.ref C2) = some true) (s2_3 : PySem.W.subIn K (.ref C2) (.ref C3) = some false) (s3_1 : PySem.W.subIn K (.ref C3) (.ref C1) = some false) (s3_2 : PySem.W.subIn K (.ref C3) (.ref C2) = some false) (s3_3 : PySem.W.subIn K (.ref C3) (.ref C3) = some true) (f0 : PySem.W.findIn K (.ref C1) "wrong" = some none) (f1 : PySem.W.findIn K (.ref C2) "wrong" = some none) : Errs K mg := by
  have e1 : ClsF K mg "NoNet" C1 := clsF_mk X G n1 (oex_mk xL1 sa1 eC1 tC1 kC1) xa1 xb1 xc1 xd1 x5 x6 xe1 nt1
  have e2 : ClsF K mg "NoHeap" C2 := clsF_mk X G n2 (oex_mk xL2 sa2 eC2 tC2 kC2) xa2 xb2 xc2 xd2 x5 x6 xe2 nt2
  have e3 : ClsF K mg "Gone" C3 := clsF_mk X G n3 (oex_mk xL3 sa3 eC3 tC3 kC3) xa3 xb3 xc3 xd3 x5 x6 xe3 nt3
  let at_ : Str → Addr := fun z => if z = "NoNet" then C1 else if z = "NoHeap" then C2 else C3
  have at1 : at_ "NoNet" = C1 := if_pos rfl
  have at2 : at_ "NoHeap" = C2 := (if_neg (by decide +kernel)).trans (if_pos rfl)
  have at3 : at_ "Gone" = C3 := (if_neg (by decide +kernel)).trans ((if_neg (by decide +kernel)).trans (rfl))
  refine ⟨errC_of at_ t1 (PySem.W.mg_of X G t1) t3 t4 t5 (fun z hz => ?_) (fun z hz => ?_) (fun z hz y hy => ?_) fun p hp => ?_, ⟨C1, e1, iniF_mk nb1 a1 ti1 l1 c1 k1 lT1⟩, ⟨C2, e2, iniF_mk nb2 a2 ti2 l2 c2 k2 lT2⟩, ⟨C3, e3, iniF_mk nb3 a3 ti3 l3 c3 k3 lT3⟩⟩
  · simp only [List.mem_cons, List.not_mem_nil, or_false] at hz
    rcases hz with rfl | rfl | rfl
    · rw [at1]; exact e1
    · rw [at2]; exact e2
    · rw [at3]; exact e3
  · simp only [List.mem_cons, List.not_mem_nil, or_false] at hz
    rcases hz with rfl | rfl | rfl
    · rw [at1]; exact s1
    · rw [at2]; exact s2
    · rw [at3]; exact s3
  · simp only [List.mem_cons, List.not_mem_nil, or_false] at hz hy
    rcases hz with rfl | rfl | rfl
    · rcases hy with rfl | rfl | rfl
      · rw [at1]; exact s1_1.trans (by decide +kernel)
      · rw [at1, at2]; exact s1_2.trans (by decide +kernel)
      · rw [at1, at3]; exact s1_3.trans (by decide +kernel)
    · rcases hy with rfl | rfl | rfl
      · rw [at2, at1]; exact s2_1.trans (by decide +kernel)
      · rw [at2]; exact s2_2.trans (by decide +kernel)
      · rw [at2, at3]; exact s2_3.trans (by decide +kernel)
    · rcases hy with rfl | rfl | rfl
      · rw [at3, at1]; exact s3_1.trans (by decide +kernel)
      · rw [at3, at2]; exact s3_2.trans (by decide +kernel)
      · rw [at3]; exact s3_3.trans (by decide +kernel)
  · simp only [List.mem_cons, List.not_mem_nil, or_false] at hp
    rcases hp with rfl | rfl
    · exact ⟨by simp, by rw [show at_ ("NoNet", "wrong").1 = C1 from at1]; exact f0⟩
    · exact ⟨by simp, by rw [show at_ ("NoHeap", "wrong").1 = C2 from at2]; exact f1⟩
theorem cals_of {G : Gx} (D : Defs G.K mg) (B : Bi mg) (C : Nc G.K mg) (R : Errs G.K mg) : Cals P w G.K mg base := by
  have cT := ok_tupOf (P := P) (w := w) (base := base) D.d_sTupOf B
  have cN := ok_name (P := P) (w := w) (base := base) D.d_sName B C
  have cW := ok_whole (P := P) (w := w) (base := base) D.d_sWhole B
  have cC := ok_counted D.d_sCounted C cT cN cW
  have cP := ok_parts D.d_sParts B cC
  have cF := ok_firing D.d_sFiring cT cN cP
  have cPl := ok_places D.d_sPlaces B cC
  have cNu := ok_numbers (P := P) (w := w) (base := base) D.d_sNumbers B
  have cBd := ok_bad (P := P) (w := w) (base := base) D.d_sBad
  have cFi := ok_firings D.d_sFirings B cNu cF cBd
  have nw := ok_net D.d_sNet B C cT cPl cFi
  have c_net_wrong := ok_net_wrong nw.cal
  have c_check_net := ok_check_net (ok_check D.d_sCheck nw.cal)
  have i_NoNet := ini_NoNet (P := P) (w := w) (base := base) R.i_NoNet
  have i_NoHeap := ini_NoHeap (P := P) (w := w) (base := base) R.i_NoHeap
  have i_Gone := ini_Gone (P := P) (w := w) (base := base) R.i_Gone
  have c_is_whole := ok_is_whole (G := G) (P := P) (w := w) (base := base) D.d_sWhole B
  have c_is_tuple_of := ok_is_tuple_of (G := G) (P := P) (w := w) (base := base) D.d_sTupOf B
  have c_numbers_of := ok_numbers_of (G := G) (P := P) (w := w) (base := base) D.d_sNumbers B
  have c_heap_flaw := ok_heap_flaw (G := G) (P := P) (w := w) (base := base) D.d_s_heap_flaw B c_is_tuple_of c_is_whole
  have c_heap_wrong := ok_heap_wrong (G := G) (P := P) (w := w) (base := base) D.d_s_heap_wrong B c_check_net c_heap_flaw
  have cx_check_net := okx_check_net (G := G) (P := P) (w := w) (base := base) D.d_sCheck B c_net_wrong i_NoNet
  have cx_check_heap := okx_check_heap (G := G) (P := P) (w := w) (base := base) D.d_s_check_heap B c_heap_wrong i_NoHeap
  have cx_led := okx_led (G := G) (P := P) (w := w) (base := base) D.d_s_led B c_numbers_of cx_check_net cx_check_heap i_Gone
  have c_Lat := ok_Lat (G := G) (P := P) (w := w) (base := base) D.d_s_Lat B
  have c_Lmixed := ok_Lmixed (G := G) (P := P) (w := w) (base := base) D.d_s_Lmixed B
  have c_Lpurse := ok_Lpurse (G := G) (P := P) (w := w) (base := base) D.d_s_Lpurse B c_Lat
  have c_Ldraw := ok_Ldraw (G := G) (P := P) (w := w) (base := base) D.d_s_Ldraw B c_Lmixed
  have c_Lparts := ok_Lparts (G := G) (P := P) (w := w) (base := base) D.d_s_Lparts B c_Ldraw
  have c_Leven := ok_Leven (G := G) (P := P) (w := w) (base := base) D.d_s_Leven B c_Ldraw
  have c_Lnet := ok_Lnet (G := G) (P := P) (w := w) (base := base) D.d_s_Lnet B c_Ldraw c_Leven c_Lparts
  have c_Lno_net := ok_Lno_net (G := G) (P := P) (w := w) (base := base) D.d_s_Lno_net B c_Ldraw
  have c_Lstock := ok_Lstock (G := G) (P := P) (w := w) (base := base) D.d_s_Lstock B c_Ldraw
  have c_Ldue := ok_Ldue (G := G) (P := P) (w := w) (base := base) D.d_s_Ldue B c_net_wrong c_heap_wrong
  have c_Lrefusal := ok_Lrefusal (G := G) (P := P) (w := w) (base := base) D.d_s_Lrefusal B cx_led R.er
  exact ⟨c_Lpurse, c_Lnet, c_Ldraw, c_Lstock, c_Lno_net, c_Lrefusal, c_Ldue⟩
theorem law_top {kept : V} {hk : ∀ I, Dq K I kept (.tuple [.str "place", .str "fire", .str "as"])} {f a : Addr} {cd : Value} {ns : List Int} (B : Bi mg) (C : ∀ base, K.In base → Cals P w K mg base) : TopBody P w K mg n_law "law" (defScope s_law) (defBody s_law) f cd a ns := fun base s H M sq => by
  have C := C base M.kin
  have hr : Room 11 (callerA.deeper (envOfC "law" (defScope s_law) s.heap.objs.size f cd)) := ⟨rfl, by show callerA.depth + 1 + 3 * 11 + 5 < _; decide +kernel, by show callerA.units + 3 + 16 * 11 + 200 < _; decide +kernel⟩
  obtain ⟨e, he⟩ := law_run ns
  refine ⟨_, pss_law (G := ⟨K, kept, hk⟩) B C hr, ?_⟩
  refine b_law.ok ⟨K, kept, hk⟩ (some (.seq ns) :: tl 7 []) _ he 0 _ (ab_cons (.seq ns) (ab_tl 0 7 [])) H H H _ H _ (env_cons (N := n_law) (vs := []) (ds := []) (by decide) (Ex.refl H) (Ex.refl H) .nil ⟨a, rfl, sq⟩) ⟨?_, ?_, ?_, ?_, ?_⟩
  · rintro I' σ' H' e E' ⟨a, h, ha⟩
    cases h
  · rintro v I' σ' H' d e E' hd ⟨a, h, ha⟩
    cases h
    exact dp_bl hd
  · rintro D I' σ' H' ys es e E' f1 f2 f3 f4 f5 f6 ⟨a, h, ha⟩
    cases h
  · rintro I' σ' H' e E' ⟨a, h, ha⟩
    cases h
  · rintro I' σ' H' e E' ⟨a, h, ha⟩
    cases h
end
theorem top_walk {l : PySem.W.OpenLaw} {n : Nat} {q : Program} {loose : List Str} {XP : (Str → Option Value) → Heap → Prop} {YP : World → Heap → Prop} {d : DefRec} {K : Params → PySem.W.Frag}
    (hn : l.most = some n) (hn2 : n ≤ sizeLine) (hdf : d.params.defaults = []) (hY : ∀ (w : World) (h : Heap), YP w h → (K w.params).In h)
    (F : ∀ (w : World) (mg : Str → Option Value) (fa : Addr) (h : Heap), (K w.params).In h → h.Ns mainGlobals mg → mg d.name = some (.ref fa) →
      ∃ fd : FuncData, L2.Fun (K w.params) "law" "law" s_law fa fd ∧ Bi mg ∧ (∃ kept : V, ∀ I, Dq (K w.params) I kept (.tuple [.str "place", .str "fire", .str "as"])) ∧ ∀ base : Heap, (K w.params).In base → Cals l.prog w (K w.params) mg base) :
    PySem.W.WalkO q loose XP YP l.row.toRowW d [] (fun f vs => PySem.call f vs) := by
  refine Att.attach_call hn hdf fun w s0 s1 mg mb fa o pm cd doc a vs ns G Y ho hd hcd hmg hobj hints hlen hgens => ?_
  have kin := hY w _ Y
  obtain ⟨fd, Fn, B, ⟨kept, hkept⟩, C⟩ := F w mg fa _ kin G.T.g hmg
  obtain ⟨oc, od, kV, dc, pm', an, cdv, ct, osl, e, lk, hc⟩ := Fn.ex
  subst e
  have rel := vals_ints hints
  have len := hints.length
  have small : ns.length ≤ sizeLine := Nat.le_trans hlen hn2
  have go := fun (H : Hp) => top_at (mb := mb) (name := "law") (qual := "law") (params := defArgs s_law) (body := defBody s_law) (scope := defScope s_law) (dV := .none) (kV := kV) (doc := dc) (pm := pm') (an := an) (ct := ct) lk hc sc_law (law_top (kept := kept) (hk := hkept) (f := fa) (a := a) (cd := cdv) (ns := ns) B C) (fun s u => .of_eq rfl) kin G.T.g G.T.b G.T.builtins G.T.nolimit hgens hobj H
  cases hk : (K w.params).lookup a with
  | some ob =>
    have g := kin a ob hk
    rw [hobj] at g
    obtain rfl := Option.some.inj g
    exact go (fun _ => none) (.inr ⟨_, vs.toArray, _, hk, rfl, rfl, rfl, by rw [List.size_toArray, len]; exact small, by simpa using rel⟩) (fun b u z => nomatch z) fun b z => absurd rfl z
  | none =>
    obtain ⟨ob, hob⟩ : ∃ ob : Obj, ob = { cls := .type "list", data := .seq vs.toArray } := ⟨_, rfl⟩
    refine go (fun b => if b = a then some (.frz ob (.lst (ns.map V.int))) else none) (.inl (.inr ⟨ob, if_pos rfl⟩)) (fun b u z => ?_) fun b z => ?_
    · by_cases h : b = a
      · obtain rfl := Option.some.inj ((if_pos h).symm.trans z)
        subst h
        rw [hob]
        exact ⟨hobj, by rw [List.length_map]; exact small, vs, _, rel, hobj⟩
      · exact nomatch (if_neg h).symm.trans z
    · by_cases h : b = a
      · subst h
        exact ⟨rfl, hk, ob, _, if_pos rfl⟩
      · exact absurd (if_neg h) z
end Nt

set_option Elab.async false
set_option linter.all false
set_option maxRecDepth 100000
namespace Nt
open PySem PySem.Spec PyProof.Rows L2 Lw Px
section
variable {K : PySem.W.Frag} {mg : Str → Option Value} {h : Heap}
theorem nc_mk (X : K.In h) (G : h.Ns mainGlobals mg) {z1 z2 : Str} {t1 t2 t4 t5 t6 t7 s1 s2 s3 : Tok} {a n : Nat} {d3 : Option Addr} {sl3 : Array (Option Value)}
    (a1 : PySem.W.nsIn K mainGlobals "LETTERS" = some (some (.str z1 t1))) (e1 : z1 = letters)
    (a2 : PySem.W.nsIn K mainGlobals "WORD_SIGNS" = some (some (.str z2 t2))) (e2 : z2 = wordSigns)
    (a3 : PySem.W.nsIn K mainGlobals "KEPT_WORDS" = some (some (.ref a))) (l3 : K.lookup a = some ⟨.type "tuple", d3, .seq #[.str "place" s1, .str "fire" s2, .str "as" s3] n, sl3⟩)
    (a4 : PySem.W.nsIn K mainGlobals "LONGEST_NAME" = some (some (.int 8 t4))) (a5 : PySem.W.nsIn K mainGlobals "GREATEST" = some (some (.int 999999999 t5)))
    (a6 : PySem.W.nsIn K mainGlobals "MOST_PLACES" = some (some (.int 40 t6))) (a7 : PySem.W.nsIn K mainGlobals "MOST_FIRINGS" = some (some (.int 60 t7))) : Nc K mg := by
  subst e1 e2
  exact ⟨⟨_, PySem.W.mg_of X G a1, ⟨_, rfl⟩⟩, ⟨_, PySem.W.mg_of X G a2, ⟨_, rfl⟩⟩, ⟨a, ⟨_, PySem.W.mg_of X G a3, rfl⟩, fun H => .inr ⟨_, _, _, l3, rfl, rfl, (by show 3 ≤ sizeLine; decide), .cons ⟨_, rfl⟩ (.cons ⟨_, rfl⟩ (.cons ⟨_, rfl⟩ .nil))⟩⟩,
    ⟨_, PySem.W.mg_of X G a4, ⟨_, rfl⟩⟩, ⟨_, PySem.W.mg_of X G a5, ⟨_, rfl⟩⟩, ⟨_, PySem.W.mg_of X G a6, ⟨_, rfl⟩⟩, ⟨_, PySem.W.mg_of X G a7, ⟨_, rfl⟩⟩⟩
theorem bi_mk (X : K.In h) (G : h.Ns mainGlobals mg) (b1 : PySem.W.nsIn K mainGlobals "len" = some none) (b2 : PySem.W.nsIn K mainGlobals "isinstance" = some none) (b3 : PySem.W.nsIn K mainGlobals "str" = some none) (b4 : PySem.W.nsIn K mainGlobals "int" = some none) (b5 : PySem.W.nsIn K mainGlobals "bool" = some none) (b6 : PySem.W.nsIn K mainGlobals "tuple" = some none) (b7 : PySem.W.nsIn K mainGlobals "list" = some none) (b8 : PySem.W.nsIn K mainGlobals "all" = some none) (b9 : PySem.W.nsIn K mainGlobals "enumerate" = some none) (b10 : PySem.W.nsIn K mainGlobals "range" = some none) (b11 : PySem.W.nsIn K mainGlobals "max" = some none) (b12 : PySem.W.nsIn K mainGlobals "min" = some none) (b13 : PySem.W.nsIn K mainGlobals "zip" = some none) (b14 : PySem.W.nsIn K mainGlobals "sum" = some none) (b15 : PySem.W.nsIn K mainGlobals "set" = some none) (b16 : PySem.W.nsIn K mainGlobals "sorted" = some none) (b17 : PySem.W.nsIn K mainGlobals "dict" = some none) (b18 : PySem.W.nsIn K mainGlobals "any" = some none) (b19 : PySem.W.nsIn K mainGlobals "repr" = some none) : Bi mg :=
  ⟨PySem.W.mg_none_of X G b1, PySem.W.mg_none_of X G b2, PySem.W.mg_none_of X G b3, PySem.W.mg_none_of X G b4, PySem.W.mg_none_of X G b5, PySem.W.mg_none_of X G b6, PySem.W.mg_none_of X G b7, PySem.W.mg_none_of X G b8, PySem.W.mg_none_of X G b9, PySem.W.mg_none_of X G b10, PySem.W.mg_none_of X G b11, PySem.W.mg_none_of X G b12, PySem.W.mg_none_of X G b13, PySem.W.mg_none_of X G b14, PySem.W.mg_none_of X G b15, PySem.W.mg_none_of X G b16, PySem.W.mg_none_of X G b17, PySem.W.mg_none_of X G b18, PySem.W.mg_none_of X G b19⟩
theorem law_mk (X : K.In h) (G : h.Ns mainGlobals mg) {fa f : Addr} (hfa : mg "law" = some (.ref fa)) {oc kV dc pm cd ct : Value} {od an : Option Addr} {osl : Array (Option Value)}
    (a : PySem.W.nsIn K mainGlobals "law" = some (some (.ref f))) (l : K.lookup f = some ⟨oc, od, .func (PySem.W.fnOf "law" "law" (defArgs s_law) (defBody s_law) (defScope s_law) .none kV dc pm an cd ct), osl⟩) (c : PySem.W.codeIn K cd "law" = true) (k : PySem.W.keepIn K (.ref f) = true) : ∃ fd, L2.Fun K "law" "law" s_law fa fd := by
  have e := hfa.symm.trans (PySem.W.mg_of X G a)
  cases e
  exact ⟨_, fun_mk (st := s_law) l c k⟩
theorem fin_mk {P : Program} {w : World} {fa : Addr} (X : K.In h) (B : Bi mg) (C : Nc K mg) (L : ∃ fd, L2.Fun K "law" "law" s_law fa fd) (D : Defs K mg) (R : Errs K mg) : ∃ fd : FuncData, L2.Fun K "law" "law" s_law fa fd ∧ Bi mg ∧ (∃ kept : V, ∀ I, Dq K I kept (.tuple [.str "place", .str "fire", .str "as"])) ∧ ∀ base : Heap, K.In base → Cals P w K mg base := by
  obtain ⟨fd, F⟩ := L
  obtain ⟨a, _, hs⟩ := C.kw
  have hk : ∀ I, Dq K I (.ref a) (.tuple [.str "place", .str "fire", .str "as"]) := fun I => .tup (hs I) (.cons (.str _) (.cons (.str _) (.cons (.str _) .nil)))
  exact ⟨fd, F, B, ⟨.ref a, hk⟩, fun base _ => cals_of (G := ⟨K, .ref a, hk⟩) D B C R⟩
end
end Nt
open PySem PySem.W PyProof.Rows
set_option maxHeartbeats 0 in
theorem PySem.Challenge.cw_tokenfold_k88_what_cant_be_led_holds : PySem.Challenge.rw_tokenfold_k88_what_cant_be_led.Holds := by
  w_on; o_law; k_head; (case hw => w_witness2)
  k_fill
  refine Nt.top_walk (l := PySem.Challenge.rw_tokenfold_k88_what_cant_be_led) (n := 63) rfl (by decide) rfl (fun w h Y => PySem.W.kIn_of Y) ?F
  case F =>
    intro w mg fa h KX G hmg
    refine' Nt.fin_mk KX ?B ?C ?L ?D ?R
    case B =>
      refine' Nt.bi_mk KX G ?b1 ?b2 ?b3 ?b4 ?b5 ?b6 ?b7 ?b8 ?b9 ?b10 ?b11 ?b12 ?b13 ?b14 ?b15 ?b16 ?b17 ?b18 ?b19
      all_goals k_is
    case C =>
      refine' Nt.nc_mk KX G ?a1 ?e1 ?a2 ?e2 ?a3 ?l3 ?a4 ?a5 ?a6 ?a7
      (case a1 => k_is); (case e1 => exact rfl); (case a2 => k_is); (case e2 => exact rfl); (case a3 => k_is); (case l3 => k_is); (case a4 => k_is); (case a5 => k_is); (case a6 => k_is); (case a7 => k_is)
    case L =>
      refine' Nt.law_mk KX G hmg ?a ?l ?c ?k
      (case a => k_is); (case l => k_is); (case c => k_is); (case k => k_is)
    case D =>
      refine' Nt.Defs.mk ?d0 ?d1 ?d2 ?d3 ?d4 ?d5 ?d6 ?d7 ?d8 ?d9 ?d10 ?d11 ?d12 ?d13 ?d14 ?d15 ?d16 ?d17 ?d18 ?d19 ?d20 ?d21 ?d22 ?d23 ?d24 ?d25 ?d26
      case d0 =>
        refine' Nt.defAt_mk KX G ?a ?l ?c ?k Nt.bd_sWhole
        (case a => k_is); (case l => k_is); (case c => k_is); (case k => k_is)
      case d1 =>
        refine' Nt.defAt_mk KX G ?a ?l ?c ?k Nt.bd_sName
        (case a => k_is); (case l => k_is); (case c => k_is); (case k => k_is)
      case d2 =>
        refine' Nt.defAt_mk KX G ?a ?l ?c ?k Nt.bd_sTupOf
        (case a => k_is); (case l => k_is); (case c => k_is); (case k => k_is)
      case d3 =>
        refine' Nt.defAt_mk KX G ?a ?l ?c ?k Nt.bd_sCounted
        (case a => k_is); (case l => k_is); (case c => k_is); (case k => k_is)
      case d4 =>
        refine' Nt.defAt_mk KX G ?a ?l ?c ?k Nt.bd_sParts
        (case a => k_is); (case l => k_is); (case c => k_is); (case k => k_is)
      case d5 =>
        refine' Nt.defAt_mk KX G ?a ?l ?c ?k Nt.bd_sFiring
        (case a => k_is); (case l => k_is); (case c => k_is); (case k => k_is)
      case d6 =>
        refine' Nt.defAt_mk KX G ?a ?l ?c ?k Nt.bd_sNumbers
        (case a => k_is); (case l => k_is); (case c => k_is); (case k => k_is)
      case d7 =>
        refine' Nt.defAt_mk KX G ?a ?l ?c ?k Nt.bd_sNet
        (case a => k_is); (case l => k_is); (case c => k_is); (case k => k_is)
      case d8 =>
        refine' Nt.defAt_mk KX G ?a ?l ?c ?k Nt.bd_sPlaces
        (case a => k_is); (case l => k_is); (case c => k_is); (case k => k_is)
      case d9 =>
        refine' Nt.defAt_mk KX G ?a ?l ?c ?k Nt.bd_sFirings
        (case a => k_is); (case l => k_is); (case c => k_is); (case k => k_is)
      case d10 =>
        refine' Nt.defAt_mk KX G ?a ?l ?c ?k Nt.bd_sBad
        (case a => k_is); (case l => k_is); (case c => k_is); (case k => k_is)
      case d11 =>
        refine' Nt.defAt_mk KX G ?a ?l ?c ?k Nt.bd_sCheck
        (case a => k_is); (case l => k_is); (case c => k_is); (case k => k_is)
      case d12 =>
        refine' Nt.defAt_mk KX G ?a ?l ?c ?k Nt.bd_s_heap_flaw
        (case a => k_is); (case l => k_is); (case c => k_is); (case k => k_is)
      case d13 =>
        refine' Nt.defAt_mk KX G ?a ?l ?c ?k Nt.bd_s_heap_wrong
        (case a => k_is); (case l => k_is); (case c => k_is); (case k => k_is)
      case d14 =>
        refine' Nt.defAt_mk KX G ?a ?l ?c ?k Nt.bd_s_check_heap
        (case a => k_is); (case l => k_is); (case c => k_is); (case k => k_is)
      case d15 =>
        refine' Nt.defAt_mk KX G ?a ?l ?c ?k Nt.bd_s_led
        (case a => k_is); (case l => k_is); (case c => k_is); (case k => k_is)
      case d16 =>
        refine' Nt.defAt_mk KX G ?a ?l ?c ?k Nt.bd_s_Lat
        (case a => k_is); (case l => k_is); (case c => k_is); (case k => k_is)
      case d17 =>
        refine' Nt.defAt_mk KX G ?a ?l ?c ?k Nt.bd_s_Lmixed
        (case a => k_is); (case l => k_is); (case c => k_is); (case k => k_is)
      case d18 =>
        refine' Nt.defAt_mk KX G ?a ?l ?c ?k Nt.bd_s_Lpurse
        (case a => k_is); (case l => k_is); (case c => k_is); (case k => k_is)
      case d19 =>
        refine' Nt.defAt_mk KX G ?a ?l ?c ?k Nt.bd_s_Ldraw
        (case a => k_is); (case l => k_is); (case c => k_is); (case k => k_is)
      case d20 =>
        refine' Nt.defAt_mk KX G ?a ?l ?c ?k Nt.bd_s_Lparts
        (case a => k_is); (case l => k_is); (case c => k_is); (case k => k_is)
      case d21 =>
        refine' Nt.defAt_mk KX G ?a ?l ?c ?k Nt.bd_s_Leven
        (case a => k_is); (case l => k_is); (case c => k_is); (case k => k_is)
      case d22 =>
        refine' Nt.defAt_mk KX G ?a ?l ?c ?k Nt.bd_s_Lnet
        (case a => k_is); (case l => k_is); (case c => k_is); (case k => k_is)
      case d23 =>
        refine' Nt.defAt_mk KX G ?a ?l ?c ?k Nt.bd_s_Lno_net
        (case a => k_is); (case l => k_is); (case c => k_is); (case k => k_is)
      case d24 =>
        refine' Nt.defAt_mk KX G ?a ?l ?c ?k Nt.bd_s_Lstock
        (case a => k_is); (case l => k_is); (case c => k_is); (case k => k_is)
      case d25 =>
        refine' Nt.defAt_mk KX G ?a ?l ?c ?k Nt.bd_s_Ldue
        (case a => k_is); (case l => k_is); (case c => k_is); (case k => k_is)
      case d26 =>
        refine' Nt.defAt_mk KX G ?a ?l ?c ?k Nt.bd_s_Lrefusal
        (case a => k_is); (case l => k_is); (case c => k_is); (case k => k_is)
    case R =>
      refine' Nt.errs_mk KX G ?t1 ?t3 ?t4 ?t5 ?x5 ?x6 ?n1 ?xL1 ?sa1 ?eC1 ?tC1 ?kC1 ?xa1 ?xb1 ?xc1 ?xd1 ?xe1 ?nt1 ?nb1 ?a1 ?ti1 ?l1 ?c1 ?k1 ?lT1 ?n2 ?xL2 ?sa2 ?eC2 ?tC2 ?kC2 ?xa2 ?xb2 ?xc2 ?xd2 ?xe2 ?nt2 ?nb2 ?a2 ?ti2 ?l2 ?c2 ?k2 ?lT2 ?n3 ?xL3 ?sa3 ?eC3 ?tC3 ?kC3 ?xa3 ?xb3 ?xc3 ?xd3 ?xe3 ?nt3 ?nb3 ?a3 ?ti3 ?l3 ?c3 ?k3 ?lT3 ?s1 ?s2 ?s3 ?s1_1 ?s1_2 ?s1_3 ?s2_1 ?s2_2 ?s2_3 ?s3_1 ?s3_2 ?s3_3 ?f0 ?f1
      (case t1 => k_is)
      (case t3 => k_is)
      (case t4 => k_is)
      (case t5 => k_is)
      (case x5 => k_is)
      (case x6 => k_is)
      (case n1 => k_is)
      (case xL1 => k_is)
      (case sa1 => k_is)
      (case eC1 => k_is)
      (case tC1 => k_is)
      (case kC1 => k_is)
      (case xa1 => k_is)
      (case xb1 => k_is)
      (case xc1 => k_is)
      (case xd1 => k_is)
      (case xe1 => k_is)
      (case nt1 => k_is)
      (case nb1 => k_is)
      (case a1 => k_is)
      (case ti1 => k_is)
      (case l1 => k_is)
      (case c1 => k_is)
      (case k1 => k_is)
      (case lT1 => k_is)
      (case n2 => k_is)
      (case xL2 => k_is)
      (case sa2 => k_is)
      (case eC2 => k_is)
      (case tC2 => k_is)
      (case kC2 => k_is)
      (case xa2 => k_is)
      (case xb2 => k_is)
      (case xc2 => k_is)
      (case xd2 => k_is)
      (case xe2 => k_is)
      (case nt2 => k_is)
      (case nb2 => k_is)
      (case a2 => k_is)
      (case ti2 => k_is)
      (case l2 => k_is)
      (case c2 => k_is)
      (case k2 => k_is)
      (case lT2 => k_is)
      (case n3 => k_is)
      (case xL3 => k_is)
      (case sa3 => k_is)
      (case eC3 => k_is)
      (case tC3 => k_is)
      (case kC3 => k_is)
      (case xa3 => k_is)
      (case xb3 => k_is)
      (case xc3 => k_is)
      (case xd3 => k_is)
      (case xe3 => k_is)
      (case nt3 => k_is)
      (case nb3 => k_is)
      (case a3 => k_is)
      (case ti3 => k_is)
      (case l3 => k_is)
      (case c3 => k_is)
      (case k3 => k_is)
      (case lT3 => k_is)
      (case s1 => k_is)
      (case s2 => k_is)
      (case s3 => k_is)
      (case s1_1 => k_is)
      (case s1_2 => k_is)
      (case s1_3 => k_is)
      (case s2_1 => k_is)
      (case s2_2 => k_is)
      (case s2_3 => k_is)
      (case s3_1 => k_is)
      (case s3_2 => k_is)
      (case s3_3 => k_is)
      (case f0 => k_is)
      (case f1 => k_is)
#print axioms PySem.Challenge.cw_tokenfold_k88_what_cant_be_led_holds
